import PyProof.Rows.All
import Wide.All
import OpenK.AllK
import Wide.FinOn
import HandS.ForMost
import HandS.Flow
import HandS.Star
import HandS.Style
import HandS.IsInst
import HandS.TupAny
import HandS.Deep
import HandS.Conv
import HandS.Codes
import HandS.HeadHook1
import KE.KStateDown
import HandS.Exc
import HandS.More
import HandS.Words
import HandS.WordsExc
import HandS.Defaults
import HandS.Head0
import HandS.Head1
import HandS.Head2
import HandS.HeadEnd
import HandS.HeadHook2
import HandS.GenCall
import HandS.GenList
import HandS.DictTup
import KE.KDictWalk
import KE.KeyNested
import KE.KDictKeyed
import PyProof.TupleOfGen
import PyProof.CollectIter
import HandS.DictComp
import HandS.IterVal
import KE.KOwnIter
import HandS.SlotsOwn
import KE.GoesZip
import KE.GoesMore
import HandS.WideBits
import KE.IntBitsLaws
import HandS.HeadHook3
import KE.KUnpackStar
import KE.KOpsOwn
import HandS.Property
import HandS.ClsMeth
import HandS.Iter
import HandS.NoneIn
import PySem.Challenge.RW_lyingstandins_k12_thing_rows
set_option Elab.async false
set_option linter.all false
set_option maxRecDepth 100000
set_option maxHeartbeats 4000000
namespace FL
open PySem L2

/-! ### data: what a value is worth, as a tree -/
inductive D where
  | non | bl (b : Bool) | int (i : Int) | str (x : Str) | tup (xs : List D) | lst (xs : List D) | klst (xs : List D) | obj (i : Nat)
  /-- an object that no one changes any more: its class, its attributes in the order in which they came -/
  | ins (c : Str) (fs : List Str) (xs : List D)
  /-- a dict with text keys that no one changes any more -/
  | dct (ks : List Str) (xs : List D)
  deriving Inhabited

mutual
inductive Rp (K : PySem.W.Frag) (φ : Nat → Option Addr) (H : Hp) : D → V → Prop
  | non : Rp K φ H .non .non
  | bl (b : Bool) : Rp K φ H (.bl b) (.bl b)
  | int (i : Int) : Rp K φ H (.int i) (.int i)
  | str (x : Str) : Rp K φ H (.str x) (.str x)
  | tup {a : Addr} {vs : List V} {ds : List D} : SqT K H a vs → RpAll K φ H ds vs → Rp K φ H (.tup ds) (.ref a)
  | lst {a : Addr} {vs : List V} {ds : List D} : H a = some (.lst vs) → RpAll K φ H ds vs → Rp K φ H (.lst ds) (.ref a)
  | klst {a : Addr} {vs : List V} {ds : List D} : SqL K H a vs → RpAll K φ H ds vs → Rp K φ H (.klst ds) (.ref a)
  | obj {i : Nat} {a : Addr} (h : φ i = some a) : Rp K φ H (.obj i) (.ref a)
  | dct {a : Addr} {ks : List Str} {vs : List V} {ds : List D} : Rd H a (.dK ((ks.map Sum.inr).zip vs)) → ks.length = vs.length → RpAll K φ H ds vs → Rp K φ H (.dct ks ds) (.ref a)
  | ins {a dx : Addr} {c : Str} {fs : List Str} {vs : List V} {ds : List D} : H a = some (.ins (He.ga K c) dx (fs.zip vs)) → fs.length = vs.length → RpAll K φ H ds vs → Rp K φ H (.ins c fs ds) (.ref a)
inductive RpAll (K : PySem.W.Frag) (φ : Nat → Option Addr) (H : Hp) : List D → List V → Prop
  | nil : RpAll K φ H [] []
  | cons {d : D} {v : V} {ds : List D} {vs : List V} : Rp K φ H d v → RpAll K φ H ds vs → RpAll K φ H (d :: ds) (v :: vs)
end

section
variable {K : PySem.W.Frag} {φ : Nat → Option Addr} {H H' : Hp}
theorem SqT_same {a : Addr} {xs : List V} (e : Same H H') (h : SqT K H a xs) : SqT K H' a xs := by
  rcases h with (h | ⟨o, h⟩) | h
  · exact .inl (.inl (e _ _ h))
  · exact .inl (.inr ⟨o, e _ _ h⟩)
  · exact .inr h
mutual
theorem Rp.mono (e : Same H H') : ∀ {d : D} {v : V}, Rp K φ H d v → Rp K φ H' d v
  | _, _, .non => .non
  | _, _, .bl b => .bl b
  | _, _, .int i => .int i
  | _, _, .str x => .str x
  | _, _, .tup s r => .tup (SqT_same e s) (RpAll.mono e r)
  | _, _, .lst s r => .lst (e _ _ s) (RpAll.mono e r)
  | _, _, .klst s r => .klst (e.seq s) (RpAll.mono e r)
  | _, _, .obj h => .obj h
  | _, _, .ins s l r => .ins (e _ _ s) l (RpAll.mono e r)
  | _, _, .dct s l r => .dct (s.imp (e _ _) fun ⟨o, h⟩ => ⟨o, e _ _ h⟩) l (RpAll.mono e r)
theorem RpAll.mono (e : Same H H') : ∀ {ds : List D} {vs : List V}, RpAll K φ H ds vs → RpAll K φ H' ds vs
  | _, _, .nil => .nil
  | _, _, .cons r t => .cons (r.mono e) (RpAll.mono e t)
end
theorem RpAll.length : ∀ {ds : List D} {vs : List V}, RpAll K φ H ds vs → ds.length = vs.length
  | _, _, .nil => rfl
  | _, _, .cons _ t => by simp [RpAll.length t]
theorem RpAll.get : ∀ {ds : List D} {vs : List V} {i : Nat} {d : D}, RpAll K φ H ds vs → ds[i]? = some d → ∃ v, vs[i]? = some v ∧ Rp K φ H d v
  | _, _, _, _, .nil, e => by simp at e
  | _, _, 0, _, .cons r _, e => by simp at e; subst e; exact ⟨_, rfl, r⟩
  | _, _, i + 1, d, .cons _ t, e => by
    obtain ⟨u, h1, h2⟩ := RpAll.get (i := i) (d := d) t (by simpa using e)
    exact ⟨u, by simpa using h1, h2⟩
theorem RpAll.append : ∀ {xs ys : List D} {us ws : List V}, RpAll K φ H xs us → RpAll K φ H ys ws → RpAll K φ H (xs ++ ys) (us ++ ws)
  | _, _, _, _, .nil, s => s
  | _, _, _, _, .cons r t, s => .cons r (RpAll.append t s)
theorem RpAll.one {d : D} {v : V} (r : Rp K φ H d v) : RpAll K φ H [d] [v] := .cons r .nil
theorem RpAll.take : ∀ {xs : List D} {us : List V} (n : Nat), RpAll K φ H xs us → RpAll K φ H (xs.take n) (us.take n)
  | _, _, 0, _ => .nil
  | _, _, _ + 1, .nil => .nil
  | _, _, n + 1, .cons r t => .cons r (RpAll.take n t)
theorem RpAll.drop : ∀ {xs : List D} {us : List V} (n : Nat), RpAll K φ H xs us → RpAll K φ H (xs.drop n) (us.drop n)
  | _, _, 0, r => r
  | _, _, _ + 1, .nil => .nil
  | _, _, n + 1, .cons _ t => RpAll.drop n t
theorem RpAll.set : ∀ {xs : List D} {us : List V} (n : Nat) {d : D} {v : V}, RpAll K φ H xs us → Rp K φ H d v → RpAll K φ H (xs.set n d) (us.set n v)
  | _, _, _, _, _, .nil, _ => .nil
  | _, _, 0, _, _, .cons _ t, r => .cons r t
  | _, _, n + 1, _, _, .cons q t, r => .cons q (RpAll.set n t r)
theorem RpAll.eraseIdx : ∀ {xs : List D} {us : List V} (n : Nat), RpAll K φ H xs us → RpAll K φ H (xs.eraseIdx n) (us.eraseIdx n)
  | _, _, _, .nil => .nil
  | _, _, 0, .cons _ t => t
  | _, _, n + 1, .cons q t => .cons q (RpAll.eraseIdx n t)
theorem RpAll.reverse : ∀ {xs : List D} {us : List V}, RpAll K φ H xs us → RpAll K φ H xs.reverse us.reverse
  | _, _, .nil => .nil
  | _, _, .cons r t => by
    rw [List.reverse_cons, List.reverse_cons]
    exact (RpAll.reverse t).append (.one r)
end

/-! ### two heaps: what is fixed for good (Hf), and all (H) -/
structure Gr (Hf H Hf' H' : Hp) : Prop where
  f : Same Hf Hf'
  h : Same H H'
  s : Same Hf' H'
  n : ∀ a o, H a = some o → Hf a = none → Hf' a = none
section
variable {Hf H Hf1 H1 Hf2 H2 : Hp}
theorem Gr.refl (s : Same Hf H) : Gr Hf H Hf H := ⟨Same.refl _, Same.refl _, s, fun _ _ _ h => h⟩
theorem Gr.trans (a : Gr Hf H Hf1 H1) (b : Gr Hf1 H1 Hf2 H2) : Gr Hf H Hf2 H2 :=
  ⟨a.f.trans b.f, a.h.trans b.h, b.s, fun x o h1 h2 => b.n x o (a.h _ _ h1) (a.n x o h1 h2)⟩
theorem same_upd {H : Hp} {p : Addr} {o : HO} (h : H p = none) : Same H (upd H p o) := fun b u e => by
  rw [upd_ne (ne_of_none e h)]; exact e
/-- a new object that is fixed for good -/
theorem Gr.new (s : Same Hf H) {p : Addr} {o : HO} (hp : H p = none) : Gr Hf H (upd Hf p o) (upd H p o) := by
  have hf : Hf p = none := s.free hp
  refine ⟨same_upd hf, same_upd hp, fun b u e => ?_, fun a u h1 h2 => ?_⟩
  · by_cases hb : b = p
    · subst hb; rw [upd_same] at e ⊢; exact e
    · rw [upd_ne hb] at e ⊢; exact s _ _ e
  · rw [upd_ne (ne_of_none h1 hp)]; exact h2
/-- a new object of our own -/
theorem Gr.own (s : Same Hf H) {p : Addr} {o : HO} (hp : H p = none) : Gr Hf H Hf (upd H p o) :=
  ⟨Same.refl _, same_upd hp, s.trans (same_upd hp), fun _ _ _ h => h⟩
end

/-! ### the slots -/
abbrev Env := List (Option D)
/-- H0, Hf0: at the def's entry; O: the slots that hold lists of our own -/
structure SR (K : PySem.W.Frag) (φ : Nat → Option Addr) (Hf0 H0 : Hp) (O : List Nat) (ρ : Env) (σ : St) (Hf H : Hp) : Prop where
  len : ρ.length = σ.length
  sub : Same Hf H
  gf : Same Hf0 Hf
  gh : Same H0 H
  gn : ∀ a o, H0 a = some o → Hf0 a = none → Hf a = none
  val : ∀ i d, ρ[i]? = some (some d) → i ∉ O → ∃ v, σ[i]? = some (some v) ∧ Rp K φ Hf d v
  own : ∀ i d, ρ[i]? = some (some d) → i ∈ O → ∃ a xs vs, d = .lst xs ∧ σ[i]? = some (some (.ref a)) ∧ H a = some (.lst vs) ∧ Hf a = none ∧ H0 a = none ∧ RpAll K φ Hf xs vs
  ne : ∀ i j d e a, ρ[i]? = some (some d) → ρ[j]? = some (some e) → i ∈ O → j ∈ O → i ≠ j → σ[i]? = some (some (.ref a)) → σ[j]? ≠ some (some (.ref a))
section
variable {K : PySem.W.Frag} {φ : Nat → Option Addr} {Hf0 H0 Hf H Hf' H' : Hp} {O : List Nat} {ρ : Env} {σ : St}
theorem SR.gr (S : SR K φ Hf0 H0 O ρ σ Hf H) (g : Gr Hf H Hf' H') : SR K φ Hf0 H0 O ρ σ Hf' H' := by
  refine ⟨S.len, g.s, S.gf.trans g.f, S.gh.trans g.h, fun a o h1 h2 => ?_, fun i d e n => ?_, fun i d e m => ?_, S.ne⟩
  · exact g.n a o (S.gh _ _ h1) (S.gn a o h1 h2)
  · obtain ⟨v, e1, r⟩ := S.val i d e n
    exact ⟨v, e1, r.mono g.f⟩
  · obtain ⟨a, xs, vs, e1, e2, e3, e4, e5, r⟩ := S.own i d e m
    exact ⟨a, xs, vs, e1, e2, g.h _ _ e3, g.n _ _ e3 e4, e5, r.mono g.f⟩
/-- from the entry to here -/
theorem SR.from0 (S : SR K φ Hf0 H0 O ρ σ Hf H) : Gr Hf0 H0 Hf H := ⟨S.gf, S.gh, S.sub, S.gn⟩
/-- a value that is given to a slot -/
theorem SR.set (S : SR K φ Hf0 H0 O ρ σ Hf H) (i : Nat) {d : D} {v : V} (r : Rp K φ Hf d v) : SR K φ Hf0 H0 (O.filter (· != i)) (ρ.set i (some d)) (σ.set i (some v)) Hf H := by
  have mem : ∀ j, j ∈ O.filter (· != i) ↔ j ∈ O ∧ j ≠ i := fun j => by simp [List.mem_filter]
  refine ⟨by simp [S.len], S.sub, S.gf, S.gh, S.gn, fun j e hj hn => ?_, fun j e hj hm => ?_, fun j k e e' a hj hk mj mk hne h1 => ?_⟩
  · by_cases h : j = i
    · subst h
      have hl : j < ρ.length := by
        have := (List.getElem?_eq_some_iff.mp hj).1; simpa using this
      rw [List.getElem?_set_self hl] at hj
      cases hj
      exact ⟨v, List.getElem?_set_self (by rw [← S.len]; exact hl), r⟩
    · rw [List.getElem?_set_ne (Ne.symm h)] at hj ⊢
      exact S.val j e hj fun m => hn ((mem j).mpr ⟨m, h⟩)
  · obtain ⟨m, h⟩ := (mem j).mp hm
    rw [List.getElem?_set_ne (Ne.symm h)] at hj ⊢
    exact S.own j e hj m
  · obtain ⟨m1, n1⟩ := (mem j).mp mj
    obtain ⟨m2, n2⟩ := (mem k).mp mk
    rw [List.getElem?_set_ne (Ne.symm n1)] at hj h1
    rw [List.getElem?_set_ne (Ne.symm n2)] at hk ⊢
    exact S.ne j k e e' a hj hk m1 m2 hne h1
theorem not_mem_filter {i : Nat} (h : i ∉ O) : O.filter (· != i) = O := by
  rw [List.filter_eq_self]
  intro j hj
  simp only [bne_iff_ne, ne_eq]
  rintro rfl
  exact h hj
/-- a list of our own that is given to a slot -/
theorem SR.setOwn (S : SR K φ Hf0 H0 O ρ σ Hf H) (i : Nat) {a : Addr} {xs : List D} {vs : List V} (h1 : H a = some (.lst vs)) (h2 : Hf a = none) (h3 : H0 a = none)
    (h4 : ∀ j d, ρ[j]? = some (some d) → j ∈ O → σ[j]? ≠ some (some (.ref a))) (r : RpAll K φ Hf xs vs) : SR K φ Hf0 H0 (i :: O.filter (· != i)) (ρ.set i (some (.lst xs))) (σ.set i (some (.ref a))) Hf H := by
  have mem : ∀ j, j ∈ i :: O.filter (· != i) ↔ j = i ∨ (j ∈ O ∧ j ≠ i) := fun j => by simp [List.mem_filter]
  have lt : ∀ {j e}, (ρ.set i (some (.lst xs)))[j]? = some (some e) → j < ρ.length := fun {j e} hj => by
    have := (List.getElem?_eq_some_iff.mp hj).1; simpa using this
  refine ⟨by simp [S.len], S.sub, S.gf, S.gh, S.gn, fun j e hj hn => ?_, fun j e hj hm => ?_, fun j k e e' b hj hk mj mk hne q1 => ?_⟩
  · have h : j ≠ i := fun h => hn ((mem j).mpr (.inl h))
    rw [List.getElem?_set_ne (Ne.symm h)] at hj ⊢
    exact S.val j e hj fun m => hn ((mem j).mpr (.inr ⟨m, h⟩))
  · by_cases h : j = i
    · subst h
      have hl := lt hj
      rw [List.getElem?_set_self hl] at hj
      cases hj
      exact ⟨a, xs, vs, rfl, List.getElem?_set_self (by rw [← S.len]; exact hl), h1, h2, h3, r⟩
    · have m : j ∈ O := by rcases (mem j).mp hm with z | z; exact absurd z h; exact z.1
      rw [List.getElem?_set_ne (Ne.symm h)] at hj ⊢
      exact S.own j e hj m
  · by_cases hji : j = i
    · subst hji
      have hl := lt hj
      have hkj : k ≠ j := Ne.symm hne
      have mk' : k ∈ O := by rcases (mem k).mp mk with z | z; exact absurd z hkj; exact z.1
      rw [List.getElem?_set_self (by rw [← S.len]; exact hl)] at q1
      cases q1
      rw [List.getElem?_set_ne hne] at hk ⊢
      exact h4 k e' hk mk'
    · have mj' : j ∈ O := by rcases (mem j).mp mj with z | z; exact absurd z hji; exact z.1
      rw [List.getElem?_set_ne (Ne.symm hji)] at hj q1
      by_cases hki : k = i
      · subst hki
        have hl := lt hk
        rw [List.getElem?_set_self (by rw [← S.len]; exact hl)]
        rintro z
        cases z
        exact h4 j e hj mj' q1
      · have mk' : k ∈ O := by rcases (mem k).mp mk with z | z; exact absurd z hki; exact z.1
        rw [List.getElem?_set_ne (Ne.symm hki)] at hk ⊢
        exact S.ne j k e e' b hj hk mj' mk' hne q1
theorem SR.memEq {O' : List Nat} (S : SR K φ Hf0 H0 O ρ σ Hf H) (m : ∀ i, i ∈ O' ↔ i ∈ O) : SR K φ Hf0 H0 O' ρ σ Hf H :=
  ⟨S.len, S.sub, S.gf, S.gh, S.gn, fun i d e n => S.val i d e fun z => n ((m i).mpr z), fun i d e z => S.own i d e ((m i).mp z), fun i j d e a h1 h2 m1 m2 => S.ne i j d e a h1 h2 ((m i).mp m1) ((m j).mp m2)⟩
/-- a list of our own is fixed for good -/
theorem SR.freeze (S : SR K φ Hf0 H0 O ρ σ Hf H) (i : Nat) : ∃ Hf1, Same Hf Hf1 ∧ SR K φ Hf0 H0 (O.filter (· != i)) ρ σ Hf1 H := by
  have mem : ∀ j, j ∈ O.filter (· != i) ↔ j ∈ O ∧ j ≠ i := fun j => by simp [List.mem_filter]
  have easy : (∀ d, ρ[i]? = some (some d) → i ∉ O) → SR K φ Hf0 H0 (O.filter (· != i)) ρ σ Hf H := fun hno => by
    refine ⟨S.len, S.sub, S.gf, S.gh, S.gn, fun j d e n => ?_, fun j d e m => S.own j d e ((mem j).mp m).1, fun j k d e a h1 h2 m1 m2 => S.ne j k d e a h1 h2 ((mem j).mp m1).1 ((mem k).mp m2).1⟩
    refine S.val j d e fun z => ?_
    by_cases h : j = i
    · subst h; exact hno d e z
    · exact n ((mem j).mpr ⟨z, h⟩)
  by_cases hi : i ∈ O
  · cases hq : ρ[i]? with
    | none => exact ⟨Hf, Same.refl _, easy fun d e => by rw [hq] at e; cases e⟩
    | some od =>
      cases od with
      | none => exact ⟨Hf, Same.refl _, easy fun d e => by rw [hq] at e; cases e⟩
      | some d =>
        obtain ⟨a, xs, vs, e1, e2, e3, e4, e5, r⟩ := S.own i d hq hi
        have sf : Same Hf (upd Hf a (.lst vs)) := same_upd e4
        refine ⟨upd Hf a (.lst vs), sf, S.len, fun b u e => ?_, S.gf.trans sf, S.gh, fun b u h1 h2 => ?_, fun j d' e n => ?_, fun j d' e m => ?_, fun j k d' e' b h1 h2 m1 m2 => S.ne j k d' e' b h1 h2 ((mem j).mp m1).1 ((mem k).mp m2).1⟩
        · by_cases hb : b = a
          · subst hb; rw [upd_same] at e; cases e; exact e3
          · rw [upd_ne hb] at e; exact S.sub _ _ e
        · rw [upd_ne (ne_of_none h1 e5)]; exact S.gn b u h1 h2
        · by_cases h : j = i
          · subst h
            rw [hq] at e; cases e
            subst e1
            exact ⟨.ref a, e2, .lst upd_same (r.mono sf)⟩
          · obtain ⟨v, q1, q2⟩ := S.val j d' e fun z => n ((mem j).mpr ⟨z, h⟩)
            exact ⟨v, q1, q2.mono sf⟩
        · obtain ⟨m1, n1⟩ := (mem j).mp m
          obtain ⟨b, ys, ws, q1, q2, q3, q4, q5, r2⟩ := S.own j d' e m1
          have hba : b ≠ a := by
            rintro rfl
            exact S.ne i j d d' b hq e hi m1 (Ne.symm n1) e2 q2
          exact ⟨b, ys, ws, q1, q2, q3, by rw [upd_ne hba]; exact q4, q5, r2.mono sf⟩
  · exact ⟨Hf, Same.refl _, easy fun _ _ => hi⟩
theorem SR.weak' (S : SR K φ Hf0 H0 O ρ σ Hf H) : ∀ l : List Nat, ∃ Hf1, Same Hf Hf1 ∧ SR K φ Hf0 H0 (O.filter fun j => !l.contains j) ρ σ Hf1 H
  | [] => ⟨Hf, Same.refl _, S.memEq fun i => by simp⟩
  | i :: l => by
    obtain ⟨Hf1, s1, S1⟩ := SR.weak' S l
    obtain ⟨Hf2, s2, S2⟩ := S1.freeze i
    refine ⟨Hf2, s1.trans s2, S2.memEq fun j => ?_⟩
    simp only [List.mem_filter, List.contains_cons, Bool.not_or, Bool.and_eq_true, Bool.not_eq_true', bne_iff_ne, ne_eq, beq_eq_false_iff_ne]
    constructor
    · rintro ⟨a, b, c⟩; exact ⟨⟨a, c⟩, b⟩
    · rintro ⟨⟨a, c⟩, b⟩; exact ⟨a, b, c⟩
/-- all but the slots of L are fixed for good -/
theorem SR.weak (S : SR K φ Hf0 H0 O ρ σ Hf H) (L : List Nat) (hL : L.all (O.contains ·) = true) : ∃ Hf1, Same Hf Hf1 ∧ SR K φ Hf0 H0 L ρ σ Hf1 H := by
  obtain ⟨Hf1, s1, S1⟩ := S.weak' (O.filter fun j => !L.contains j)
  refine ⟨Hf1, s1, S1.memEq fun j => ?_⟩
  have hs : ∀ j ∈ L, j ∈ O := fun j hj => by simpa using (List.all_eq_true.mp hL) j hj
  simp only [List.mem_filter, Bool.not_eq_true', List.contains_eq_mem, decide_eq_false_iff_not]
  constructor
  · intro hj; exact ⟨hs j hj, fun z => by simp_all⟩
  · rintro ⟨a, b⟩
    by_cases h : j ∈ L
    · exact h
    · exact absurd (by simp [a, h]) b
end
end FL
namespace FL
open PySem L2

/-- kept shut: what reads a type to its end stops here -/
structure Lk (P : Prop) : Prop where
  h : P
/-! ### the weakest readings -/
def wE (X : Cx) (e : Expr) : TE := fun σ H Q => Lk (∀ pins s, Inv X pins σ H s → wpAny (model X.prog X.w) X.A (eval e X.env) (EP X pins σ Q) X.xe s)
def wT (X : Cx) (e : Expr) : TT := fun σ H Q => Lk (∀ pins s, Inv X pins σ H s → wpAny (model X.prog X.w) X.A (isTrue e X.env (eval e X.env)) (TP X pins σ Q) X.xe s)
def wA (X : Cx) (es : List Expr) : TA := fun σ H Q => Lk (∀ pos pins s, Inv X pins σ H s → wpAny (model X.prog X.w) X.A (spliced (backTo pos (starEach es X.env))) (AP X pins σ Q) X.xe s)
def wS (X : Cx) (st : Stmt) : TS := fun D σ H => Lk (∀ pins s, Inv X pins σ H s → wpAny (model X.prog X.w) X.A (exec st X.env) (SP X pins D) X.xe s)
def wSs (X : Cx) (st : List Stmt) : TS := fun D σ H => Lk (∀ pins s, Inv X pins σ H s → wpAny (model X.prog X.w) X.A (execs st X.env) (SP X pins D) X.xe s)
section
variable {X : Cx} {e : Expr} {es : List Expr} {st : Stmt} {sts : List Stmt} {σ : St} {H : Hp}
theorem peW : PE X e (wE X e) := ⟨fun pins s _ _ _ I h => h.h pins s I⟩
theorem ptW : PT X e (wT X e) := ⟨fun pins s _ _ _ I h => h.h pins s I⟩
theorem paW : PA X es (wA X es) := ⟨fun pos pins s _ _ _ I h => h.h pos pins s I⟩
theorem psW : PS X st (wS X st) := ⟨fun pins s _ _ _ I h => h.h pins s I⟩
theorem pssW : PSs X sts (wSs X sts) := ⟨fun pins s _ _ _ I h => h.h pins s I⟩
theorem toE {t : TE} (h : PE X e t) {Q : VK} (q : t σ H Q) : wE X e σ H Q := ⟨fun pins s I => h.run pins s σ H Q I q⟩
theorem toT {t : TT} (h : PT X e t) {Q : Bool → Hp → Prop} (q : t σ H Q) : wT X e σ H Q := ⟨fun pins s I => h.run pins s σ H Q I q⟩
theorem toA {t : TA} (h : PA X es t) {Q : List V → Hp → Prop} (q : t σ H Q) : wA X es σ H Q := ⟨fun pos pins s I => h.run pos pins s σ H Q I q⟩
theorem toS {t : TS} (h : PS X st t) {Dn : Ends} (q : t Dn σ H) : wS X st Dn σ H := ⟨fun pins s I => h.run pins s σ H Dn I q⟩
theorem toSs {t : TS} (h : PSs X sts t) {Dn : Ends} (q : t Dn σ H) : wSs X sts Dn σ H := ⟨fun pins s I => h.run pins s σ H Dn I q⟩
end

/-! ### a value that may be a list of our own -/
def Rpb (K : PySem.W.Frag) (φ : Nat → Option Addr) (Hf H : Hp) (d : D) (v : V) : Prop :=
  Rp K φ Hf d v ∨ ∃ a xs vs, d = .lst xs ∧ v = .ref a ∧ H a = some (.lst vs) ∧ RpAll K φ Hf xs vs
inductive RpbAll (K : PySem.W.Frag) (φ : Nat → Option Addr) (Hf H : Hp) : List D → List V → Prop
  | nil : RpbAll K φ Hf H [] []
  | cons {d : D} {v : V} {ds : List D} {vs : List V} : Rpb K φ Hf H d v → RpbAll K φ Hf H ds vs → RpbAll K φ Hf H (d :: ds) (v :: vs)
section
variable {K : PySem.W.Frag} {φ : Nat → Option Addr} {Hf H Hf' H' : Hp} {d : D} {v : V}
theorem Rpb.gr (g : Gr Hf H Hf' H') (r : Rpb K φ Hf H d v) : Rpb K φ Hf' H' d v := by
  rcases r with r | ⟨a, xs, vs, h1, h2, h3, h4⟩
  · exact .inl (r.mono g.f)
  · exact .inr ⟨a, xs, vs, h1, h2, g.h _ _ h3, h4.mono g.f⟩
/-- over all that there is -/
theorem Rpb.all (s : Same Hf H) (r : Rpb K φ Hf H d v) : Rp K φ H d v := by
  rcases r with r | ⟨a, xs, vs, h1, h2, h3, h4⟩
  · exact r.mono s
  · subst h1 h2; exact .lst h3 (h4.mono s)
theorem RpbAll.gr (g : Gr Hf H Hf' H') : ∀ {ds : List D} {vs : List V}, RpbAll K φ Hf H ds vs → RpbAll K φ Hf' H' ds vs
  | _, _, .nil => .nil
  | _, _, .cons r t => .cons (r.gr g) (RpbAll.gr g t)
/-- a value that is no object -/
def scal : D → Bool
  | .non => true | .bl _ => true | .int _ => true | .str _ => true | _ => false
theorem Rp.scal (r : Rp K φ Hf d v) (h : scal d = true) : Rp K φ Hf' d v := by
  cases r <;> first | exact .non | exact .bl _ | exact .int _ | exact .str _ | cases h
end

/-! ### expressions -/
def FE (X : Cx) (O : List Nat) (e : Expr) (F : Env → Option D) : Prop :=
  ∀ (φ : Nat → Option Addr) (Hf0 H0 : Hp) (ρ : Env) (σ : St) (Hf H : Hp) (d : D) (Q : VK), SR X.K φ Hf0 H0 O ρ σ Hf H → F ρ = some d → (∀ v Hf' H', Gr Hf H Hf' H' → Rp X.K φ Hf' d v → Q v H') → wE X e σ H Q
/-- .. that may be a list of our own -/
def FB (X : Cx) (O : List Nat) (e : Expr) (F : Env → Option D) : Prop :=
  ∀ (φ : Nat → Option Addr) (Hf0 H0 : Hp) (ρ : Env) (σ : St) (Hf H : Hp) (d : D) (Q : VK), SR X.K φ Hf0 H0 O ρ σ Hf H → F ρ = some d → (∀ v Hf' H', Gr Hf H Hf' H' → Rpb X.K φ Hf' H' d v → Q v H') → wE X e σ H Q
/-- .. that is a new list -/
def FN (X : Cx) (O : List Nat) (e : Expr) (F : Env → Option D) : Prop :=
  ∀ (φ : Nat → Option Addr) (Hf0 H0 : Hp) (ρ : Env) (σ : St) (Hf H : Hp) (d : D) (Q : VK), SR X.K φ Hf0 H0 O ρ σ Hf H → F ρ = some d →
    (∀ a xs vs Hf' H', d = .lst xs → Gr Hf H Hf' H' → H a = none → Hf' a = none → H' a = some (.lst vs) → RpAll X.K φ Hf' xs vs → Q (.ref a) H') → wE X e σ H Q
def FT (X : Cx) (O : List Nat) (e : Expr) (F : Env → Option Bool) : Prop :=
  ∀ (φ : Nat → Option Addr) (Hf0 H0 : Hp) (ρ : Env) (σ : St) (Hf H : Hp) (b : Bool) (Q : Bool → Hp → Prop), SR X.K φ Hf0 H0 O ρ σ Hf H → F ρ = some b → (∀ Hf' H', Gr Hf H Hf' H' → Q b H') → wT X e σ H Q
def FA (X : Cx) (O : List Nat) (es : List Expr) (F : Env → Option (List D)) : Prop :=
  ∀ (φ : Nat → Option Addr) (Hf0 H0 : Hp) (ρ : Env) (σ : St) (Hf H : Hp) (ds : List D) (Q : List V → Hp → Prop), SR X.K φ Hf0 H0 O ρ σ Hf H → F ρ = some ds → (∀ vs Hf' H', Gr Hf H Hf' H' → RpAll X.K φ Hf' ds vs → Q vs H') → wA X es σ H Q
def FBA (X : Cx) (O : List Nat) (es : List Expr) (F : Env → Option (List D)) : Prop :=
  ∀ (φ : Nat → Option Addr) (Hf0 H0 : Hp) (ρ : Env) (σ : St) (Hf H : Hp) (ds : List D) (Q : List V → Hp → Prop), SR X.K φ Hf0 H0 O ρ σ Hf H → F ρ = some ds → (∀ vs Hf' H', Gr Hf H Hf' H' → RpbAll X.K φ Hf' H' ds vs → Q vs H') → wA X es σ H Q

/-! ### the mirror's words -/
def eVar (i : Nat) : Env → Option D := fun ρ => match ρ[i]? with | some (some d) => some d | _ => none
def eC (d : D) : Env → Option D := fun _ => some d
def e1 (f : D → Option D) (F : Env → Option D) : Env → Option D := fun ρ => match F ρ with | some d => f d | none => none
def e2 (f : D → D → Option D) (F G : Env → Option D) : Env → Option D := fun ρ => match F ρ with | some d => (match G ρ with | some e => f d e | none => none) | none => none
def eL (f : List D → Option D) (F : Env → Option (List D)) : Env → Option D := fun ρ => match F ρ with | some ds => f ds | none => none
def aNil : Env → Option (List D) := fun _ => some []
def aCons (F : Env → Option D) (G : Env → Option (List D)) : Env → Option (List D) := fun ρ => match F ρ with | some d => (match G ρ with | some ds => some (d :: ds) | none => none) | none => none
def seqD : D → Option (List D)
  | .lst xs => some xs | .klst xs => some xs | .tup xs => some xs | _ => none
def aStar (F : Env → Option D) (G : Env → Option (List D)) : Env → Option (List D) := fun ρ => match F ρ with
  | some d => (match seqD d with | some xs => (match G ρ with | some ds => some (xs ++ ds) | none => none) | none => none) | none => none
def tupD (ds : List D) : Option D := if ds.length ≤ sizeLine then some (.tup ds) else none
def lstD (ds : List D) : Option D := if ds.length ≤ sizeLine then some (.lst ds) else none
def tB (f : D → Option Bool) (F : Env → Option D) : Env → Option Bool := fun ρ => match F ρ with | some d => f d | none => none
def tNot (F : Env → Option Bool) : Env → Option Bool := fun ρ => match F ρ with | some b => some (!b) | none => none
def tAnd (F G : Env → Option Bool) : Env → Option Bool := fun ρ => match F ρ with | some true => G ρ | some false => some false | none => none
def tOr (F G : Env → Option Bool) : Env → Option Bool := fun ρ => match F ρ with | some true => some true | some false => G ρ | none => none
def eIf (C : Env → Option Bool) (F G : Env → Option D) : Env → Option D := fun ρ => match C ρ with | some true => F ρ | some false => G ρ | none => none
def eScal (F : Env → Option D) : Env → Option D := fun ρ => match F ρ with | some d => if scal d = true then some d else none | none => none
def blD : D → Option Bool
  | .bl b => some b | _ => none
def truD : D → Option Bool
  | .non => some false | .bl b => some b | .int i => some (i != 0)
  | .str y => if y.length ≤ sizeLine then some ((y.length : Int) != 0) else none
  | .lst xs => some (!xs.isEmpty) | .klst xs => some (!xs.isEmpty) | .tup xs => some (!xs.isEmpty) | .obj _ => none | .ins _ _ _ => none | .dct _ _ => none

section
variable {X : Cx} {O : List Nat} {e a b : Expr} {es : List Expr} {pos : Pos} {F G : Env → Option D} {Fs : Env → Option (List D)}
theorem e1_some {f : D → Option D} {ρ : Env} {d : D} (h : e1 f F ρ = some d) : ∃ x, F ρ = some x ∧ f x = some d := by
  unfold e1 at h; cases q : F ρ with
  | none => rw [q] at h; cases h
  | some x => rw [q] at h; exact ⟨x, rfl, h⟩
theorem e2_some {f : D → D → Option D} {ρ : Env} {d : D} (h : e2 f F G ρ = some d) : ∃ x y, F ρ = some x ∧ G ρ = some y ∧ f x y = some d := by
  unfold e2 at h; cases q : F ρ with
  | none => rw [q] at h; cases h
  | some x =>
    rw [q] at h
    cases q2 : G ρ with
    | none => simp only [q2] at h; cases h
    | some y => simp only [q2] at h; exact ⟨x, y, rfl, rfl, h⟩
theorem eL_some {f : List D → Option D} {ρ : Env} {d : D} (h : eL f Fs ρ = some d) : ∃ x, Fs ρ = some x ∧ f x = some d := by
  unfold eL at h; cases q : Fs ρ with
  | none => rw [q] at h; cases h
  | some x => rw [q] at h; exact ⟨x, rfl, h⟩
theorem tB_some {f : D → Option Bool} {ρ : Env} {d : Bool} (h : tB f F ρ = some d) : ∃ x, F ρ = some x ∧ f x = some d := by
  unfold tB at h; cases q : F ρ with
  | none => rw [q] at h; cases h
  | some x => rw [q] at h; exact ⟨x, rfl, h⟩

theorem fb_of (h : FE X O e F) : FB X O e F := fun φ Hf0 H0 ρ σ Hf H d Q S hF k => h φ Hf0 H0 ρ σ Hf H d Q S hF fun v Hf' H' g r => k v Hf' H' g (.inl r)
theorem fe_of_fn (h : FN X O e F) : FE X O e F := fun φ Hf0 H0 ρ σ Hf H d Q S hF k => h φ Hf0 H0 ρ σ Hf H d Q S hF fun a xs vs Hf' H' hd g h1 h2 h3 r => by
  subst hd
  have sf : Same Hf' (upd Hf' a (.lst vs)) := same_upd h2
  refine k (.ref a) (upd Hf' a (.lst vs)) H' ⟨g.f.trans sf, g.h, fun b u q => ?_, fun b u q1 q2 => ?_⟩ (.lst upd_same (r.mono sf))
  · by_cases hb : b = a
    · subst hb; rw [upd_same] at q; cases q; exact h3
    · rw [upd_ne hb] at q; exact g.s _ _ q
  · rw [upd_ne (ne_of_none q1 h1)]; exact g.n b u q1 q2
theorem fb_of_fn (h : FN X O e F) : FB X O e F := fb_of (fe_of_fn h)

theorem fb_var {i : Nat} {x : Str} (hN : X.N[i]? = some x) (hv : Vis X.env.scope x) (hd : (x == ("__debug__" : Str)) = false := by decide +kernel) (hcd : (x == ("__classdict__" : Str)) = false := by decide +kernel) : FB X O (.Name x pos) (eVar i) := by
  intro φ Hf0 H0 ρ σ Hf H d Q S hF k
  have hq : ρ[i]? = some (some d) := by
    unfold eVar at hF
    split at hF
    · rename_i d' h; cases hF; exact h
    · cases hF
  refine toE (pe_var hN hv hd hcd) ?_
  by_cases hi : i ∈ O
  · obtain ⟨a, xs, vs, e1, e2, e3, e4, e5, r⟩ := S.own i d hq hi
    exact ⟨_, e2, k _ Hf H (.refl S.sub) (.inr ⟨a, xs, vs, e1, rfl, e3, r⟩)⟩
  · obtain ⟨v, e1, r⟩ := S.val i d hq hi
    exact ⟨v, e1, k v Hf H (.refl S.sub) (.inl r)⟩
theorem fe_var {i : Nat} {x : Str} (hN : X.N[i]? = some x) (hv : Vis X.env.scope x) (hO : O.contains i = false) (hd : (x == ("__debug__" : Str)) = false := by decide +kernel) (hcd : (x == ("__classdict__" : Str)) = false := by decide +kernel) : FE X O (.Name x pos) (eVar i) := by
  intro φ Hf0 H0 ρ σ Hf H d Q S hF k
  have hq : ρ[i]? = some (some d) := by
    unfold eVar at hF
    split at hF
    · rename_i d' h; cases hF; exact h
    · cases hF
  refine toE (pe_var hN hv hd hcd) ?_
  have hi : i ∉ O := by simpa using hO
  obtain ⟨v, e1, r⟩ := S.val i d hq hi
  exact ⟨v, e1, k v Hf H (.refl S.sub) r⟩
theorem fe_int {i : Int} {j} : FE X O (.Constant (.int i) j pos) (eC (.int i)) := fun φ Hf0 H0 ρ σ Hf H d Q S hF k => by cases hF; exact toE pe_int (k _ Hf H (.refl S.sub) (.int i))
theorem fe_bl {i : Bool} {j} : FE X O (.Constant (.bool i) j pos) (eC (.bl i)) := fun φ Hf0 H0 ρ σ Hf H d Q S hF k => by cases hF; exact toE pe_bl (k _ Hf H (.refl S.sub) (.bl i))
theorem fe_non {j} : FE X O (.Constant .none j pos) (eC .non) := fun φ Hf0 H0 ρ σ Hf H d Q S hF k => by cases hF; exact toE pe_non (k _ Hf H (.refl S.sub) .non)
theorem fe_str {x : Str} {j} : FE X O (.Constant (.str x) j pos) (eC (.str x)) := fun φ Hf0 H0 ρ σ Hf H d Q S hF k => by cases hF; exact toE pe_str (k _ Hf H (.refl S.sub) (.str x))
/-- a constant of the module -/
def RpK (K : PySem.W.Frag) (d : D) (v : V) : Prop := ∀ φ H, Rp K φ H d v
theorem fe_glob {x : Str} {d : D} (hg : Gl X x) (h : ∃ u v, X.mg x = some u ∧ RelV v u ∧ RpK X.K d v) (hd : (x == ("__debug__" : Str)) = false := by decide +kernel) : FE X O (.Name x pos) (eC d) := by
  intro φ Hf0 H0 ρ σ Hf H d' Q S hF k
  cases hF
  obtain ⟨u, v, h1, h2, h3⟩ := h
  exact toE (pe_glob hg h1 h2 hd) (k v Hf H (.refl S.sub) (h3 φ Hf))

theorem fa_nil : FA X O [] aNil := fun φ Hf0 H0 ρ σ Hf H d Q S hF k => by cases hF; exact toA pa_nil (k [] Hf H (.refl S.sub) .nil)
theorem fa_cons (h : FE X O e F) (t : FA X O es Fs) (hs : starEach (e :: es) X.env = (false, eval e X.env) :: starEach es X.env := by rfl) : FA X O (e :: es) (aCons F Fs) := by
  intro φ Hf0 H0 ρ σ Hf H ds Q S hF k
  unfold aCons at hF
  split at hF
  · rename_i d h1
    split at hF
    · rename_i ds' h2
      cases hF
      refine toA (pa_cons (peW (e := e)) (paW (es := es)) hs) ?_
      refine h φ Hf0 H0 ρ σ Hf H d _ S h1 fun v Hf1 H1 g1 r1 => ?_
      refine t φ Hf0 H0 ρ σ Hf1 H1 ds' _ (S.gr g1) h2 fun vs Hf2 H2 g2 r2 => ?_
      exact k (v :: vs) Hf2 H2 (g1.trans g2) (.cons (r1.mono g2.f) r2)
    · cases hF
  · cases hF
theorem fba_nil : FBA X O [] aNil := fun φ Hf0 H0 ρ σ Hf H d Q S hF k => by cases hF; exact toA pa_nil (k [] Hf H (.refl S.sub) .nil)
theorem fba_cons (h : FB X O e F) (t : FBA X O es Fs) (hs : starEach (e :: es) X.env = (false, eval e X.env) :: starEach es X.env := by rfl) : FBA X O (e :: es) (aCons F Fs) := by
  intro φ Hf0 H0 ρ σ Hf H ds Q S hF k
  unfold aCons at hF
  split at hF
  · rename_i d h1
    split at hF
    · rename_i ds' h2
      cases hF
      refine toA (pa_cons (peW (e := e)) (paW (es := es)) hs) ?_
      refine h φ Hf0 H0 ρ σ Hf H d _ S h1 fun v Hf1 H1 g1 r1 => ?_
      refine t φ Hf0 H0 ρ σ Hf1 H1 ds' _ (S.gr g1) h2 fun vs Hf2 H2 g2 r2 => ?_
      exact k (v :: vs) Hf2 H2 (g1.trans g2) (.cons (r1.gr g2) r2)
    · cases hF
  · cases hF
theorem Rpb.seq {K : PySem.W.Frag} {φ : Nat → Option Addr} {Hf H : Hp} {d : D} {v : V} {xs : List D} (s : Same Hf H) (r : Rpb K φ Hf H d v) (h : seqD d = some xs) : ∃ p vs, v = .ref p ∧ (SqL K H p vs ∨ SqT K H p vs) ∧ RpAll K φ Hf xs vs := by
  rcases r with r | ⟨a, ys, vs, h1, h2, h3, h4⟩
  · cases r with
    | tup q r => cases h; exact ⟨_, _, rfl, .inr (SqT_same s q), r⟩
    | lst q r => cases h; exact ⟨_, _, rfl, .inl (.inl (.inl (s _ _ q))), r⟩
    | klst q r => cases h; exact ⟨_, _, rfl, .inl (s.seq q), r⟩
    | _ => cases h
  · subst h1 h2
    cases h
    exact ⟨_, _, rfl, .inl (.inl (.inl h3)), h4⟩
theorem fa_star {p : Pos} (h : FB X O e F) (t : FA X O es Fs) (hs : starEach (.Starred e p :: es) X.env = (true, eval e X.env) :: starEach es X.env := by rfl) : FA X O (.Starred e p :: es) (aStar F Fs) := by
  intro φ Hf0 H0 ρ σ Hf H ds Q S hF k
  unfold aStar at hF
  split at hF
  · rename_i d h1
    split at hF
    · rename_i xs hx
      split at hF
      · rename_i ds' h2
        cases hF
        refine toA (StX.pa_star (peW (e := e)) (paW (es := es)) hs) ?_
        refine h φ Hf0 H0 ρ σ Hf H d _ S h1 fun v Hf1 H1 g1 r1 => ?_
        obtain ⟨q, us, e1, e2, e3⟩ := r1.seq g1.s hx
        refine ⟨q, us, e1, e2.symm, ?_⟩
        refine t φ Hf0 H0 ρ σ Hf1 H1 ds' _ (S.gr g1) h2 fun vs Hf2 H2 g2 r2 => ?_
        exact k (us ++ vs) Hf2 H2 (g1.trans g2) ((e3.mono g2.f).append r2)
      · cases hF
    · cases hF
  · cases hF
theorem fe_tup {x1} (h : FA X O es Fs) : FE X O (.Tuple es x1 pos) (eL tupD Fs) := by
  intro φ Hf0 H0 ρ σ Hf H d Q S hF k
  obtain ⟨ds, h1, h2⟩ := eL_some hF
  unfold tupD at h2
  split at h2
  · rename_i hl
    cases h2
    refine toE (pe_tup (paW (es := es))) ?_
    refine h φ Hf0 H0 ρ σ Hf H ds _ S h1 fun vs Hf1 H1 g1 r1 => ?_
    refine ⟨by rw [← r1.length]; exact hl, fun p hp => ?_⟩
    have g2 : Gr Hf1 H1 (upd Hf1 p (.tup vs)) (upd H1 p (.tup vs)) := .new g1.s hp
    exact k _ _ _ (g1.trans g2) (.tup (.inl (.inl upd_same)) (r1.mono g2.f))
  · cases h2
theorem fn_lst (h : FA X O es Fs) : FN X O (.List es pos) (eL lstD Fs) := by
  intro φ Hf0 H0 ρ σ Hf H d Q S hF k
  obtain ⟨ds, h1, h2⟩ := eL_some hF
  unfold lstD at h2
  split at h2
  · rename_i hl
    cases h2
    refine toE (pe_lst (paW (es := es))) ?_
    refine h φ Hf0 H0 ρ σ Hf H ds _ S h1 fun vs Hf1 H1 g1 r1 => ?_
    refine ⟨by rw [← r1.length]; exact hl, fun p hp => ?_⟩
    have g2 : Gr Hf1 H1 Hf1 (upd H1 p (.lst vs)) := .own g1.s hp
    exact k p ds vs _ _ rfl (g1.trans g2) (g1.h.free hp) (g1.s.free hp) upd_same r1
  · cases h2
/-- an expression that is worth no object may read lists of our own as they are -/
theorem fe_scal {L : List Nat} (h : FE X L e F) (hL : L.all (O.contains ·) = true) : FE X O e (eScal F) := by
  intro φ Hf0 H0 ρ σ Hf H d Q S hF k
  unfold eScal at hF
  split at hF
  · rename_i d' h1
    split at hF
    · rename_i hs
      cases hF
      obtain ⟨Hf1, s1, S1⟩ := S.weak L hL
      refine h φ Hf0 H0 ρ σ Hf1 H d _ S1 h1 fun v Hf2 H2 g2 r2 => ?_
      exact k v Hf H2 ⟨Same.refl _, g2.h, S.sub.trans g2.h, fun _ _ _ z => z⟩ (r2.scal hs)
    · cases hF
  · cases hF
theorem ft_own {L : List Nat} {T : Env → Option Bool} (h : FT X L e T) (hL : L.all (O.contains ·) = true) : FT X O e T := by
  intro φ Hf0 H0 ρ σ Hf H b Q S hF k
  obtain ⟨Hf1, s1, S1⟩ := S.weak L hL
  exact h φ Hf0 H0 ρ σ Hf1 H b _ S1 hF fun Hf2 H2 g2 => k Hf H2 ⟨Same.refl _, g2.h, S.sub.trans g2.h, fun _ _ _ z => z⟩

/-! ### operations by values -/
def Op2 (K : PySem.W.Frag) (r : R2) (f : D → D → Option D) : Prop := ∀ (φ : Nat → Option Addr) (Hf H : Hp) (x y d : D) (v u : V) (Q : VK), Same Hf H → Rpb K φ Hf H x v → Rpb K φ Hf H y u → f x y = some d → (∀ z Hf' H', Gr Hf H Hf' H' → Rp K φ Hf' d z → Q z H') → r v u H Q
def Op2N (K : PySem.W.Frag) (r : R2) (f : D → D → Option D) : Prop := ∀ (φ : Nat → Option Addr) (Hf H : Hp) (x y d : D) (v u : V) (Q : VK), Same Hf H → Rpb K φ Hf H x v → Rpb K φ Hf H y u → f x y = some d →
  (∀ a xs vs H', d = .lst xs → Gr Hf H Hf H' → H a = none → H' a = some (.lst vs) → RpAll K φ Hf xs vs → Q (.ref a) H') → r v u H Q
def OpL (K : PySem.W.Frag) (r : List V → Hp → VK → Prop) (f : List D → Option D) : Prop := ∀ (φ : Nat → Option Addr) (Hf H : Hp) (xs : List D) (d : D) (vs : List V) (Q : VK), Same Hf H → RpbAll K φ Hf H xs vs → f xs = some d → (∀ z Hf' H', Gr Hf H Hf' H' → Rp K φ Hf' d z → Q z H') → r vs H Q
def OpLN (K : PySem.W.Frag) (r : List V → Hp → VK → Prop) (f : List D → Option D) : Prop := ∀ (φ : Nat → Option Addr) (Hf H : Hp) (xs : List D) (d : D) (vs : List V) (Q : VK), Same Hf H → RpbAll K φ Hf H xs vs → f xs = some d →
  (∀ a ys us H', d = .lst ys → Gr Hf H Hf H' → H a = none → H' a = some (.lst us) → RpAll K φ Hf ys us → Q (.ref a) H') → r vs H Q
theorem two {φ : Nat → Option Addr} {Hf0 H0 : Hp} {ρ : Env} {σ : St} {Hf H : Hp} {x y : D} {R : V → V → Hp → Prop} (ha : FB X O a F) (hb : FB X O b G) (S : SR X.K φ Hf0 H0 O ρ σ Hf H) (h1 : F ρ = some x) (h2 : G ρ = some y)
    (k : ∀ v u Hf' H', Gr Hf H Hf' H' → Rpb X.K φ Hf' H' x v → Rpb X.K φ Hf' H' y u → R v u H') : wE X a σ H fun v H1 => wE X b σ H1 fun u H2 => R v u H2 :=
  ha φ Hf0 H0 ρ σ Hf H x _ S h1 fun v Hf1 H1 g1 r1 => hb φ Hf0 H0 ρ σ Hf1 H1 y _ (S.gr g1) h2 fun u Hf2 H2 g2 r2 => k v u Hf2 H2 (g1.trans g2) (r1.gr g2) r2
theorem fe_op {op : Operator} {r : R2} {f : D → D → Option D} (ho : OpR X (binaryOp op) r) (hr : Op2 X.K r f) (ha : FB X O a F) (hb : FB X O b G) : FE X O (.BinOp a op b pos) (e2 f F G) := by
  intro φ Hf0 H0 ρ σ Hf H d Q S hF k
  obtain ⟨x, y, h1, h2, h3⟩ := e2_some hF
  exact toE (pe_op ho peW peW) (two ha hb S h1 h2 fun v u Hf1 H1 g r1 r2 => hr φ Hf1 H1 x y d v u Q g.s r1 r2 h3 fun z Hf2 H2 g2 r3 => k z Hf2 H2 (g.trans g2) r3)
theorem fn_op {op : Operator} {r : R2} {f : D → D → Option D} (ho : OpR X (binaryOp op) r) (hr : Op2N X.K r f) (ha : FB X O a F) (hb : FB X O b G) : FN X O (.BinOp a op b pos) (e2 f F G) := by
  intro φ Hf0 H0 ρ σ Hf H d Q S hF k
  obtain ⟨x, y, h1, h2, h3⟩ := e2_some hF
  exact toE (pe_op ho peW peW) (two ha hb S h1 h2 fun v u Hf1 H1 g r1 r2 => hr φ Hf1 H1 x y d v u Q g.s r1 r2 h3 fun a xs vs H2 hd g2 q1 q2 r3 => k a xs vs Hf1 H2 hd (g.trans g2) (g.h.free q1) (g.s.free q1) q2 r3)
theorem fe_cmp {op : CmpOp} {r : R2} {f : D → D → Option D} (ho : OpR X (compareOp op) r) (hr : Op2 X.K r f) (ha : FB X O a F) (hb : FB X O b G) (hm : behindInMarks op b = false) : FE X O (.Compare a [op] [b] pos) (e2 f F G) := by
  intro φ Hf0 H0 ρ σ Hf H d Q S hF k
  obtain ⟨x, y, h1, h2, h3⟩ := e2_some hF
  exact toE (pe_cmpR ho peW peW hm) (two ha hb S h1 h2 fun v u Hf1 H1 g r1 r2 => hr φ Hf1 H1 x y d v u Q g.s r1 r2 h3 fun z Hf2 H2 g2 r3 => k z Hf2 H2 (g.trans g2) r3)
theorem ft_cmp {op : CmpOp} {r : R2} {f : D → D → Option D} (ho : OpR X (compareOp op) r) (hr : Op2 X.K r f) (ha : FB X O a F) (hb : FB X O b G) (hm : behindInMarks op b = false) : FT X O (.Compare a [op] [b] pos) (tB blD (e2 f F G)) := by
  intro φ Hf0 H0 ρ σ Hf H c Q S hF k
  obtain ⟨d, hd, hc⟩ := tB_some hF
  obtain ⟨x, y, h1, h2, h3⟩ := e2_some hd
  cases d <;> first | cases hc | skip
  refine toT (pt_cmpR ho peW peW hm) (two ha hb S h1 h2 fun v u Hf1 H1 g r1 r2 => hr φ Hf1 H1 x y _ v u _ g.s r1 r2 h3 fun z Hf2 H2 g2 r3 => ?_)
  cases r3
  exact ⟨_, rfl, k Hf2 H2 (g.trans g2)⟩
theorem fe_ix {r : R2} {f : D → D → Option D} (ho : IxR X r) (hr : Op2 X.K r f) (ha : FB X O a F) (hb : FB X O b G) (hs : PlainIx b) : FE X O (.Subscript a b pos) (e2 f F G) := by
  intro φ Hf0 H0 ρ σ Hf H d Q S hF k
  obtain ⟨x, y, h1, h2, h3⟩ := e2_some hF
  exact toE (pe_ix ho peW peW hs) (two ha hb S h1 h2 fun v u Hf1 H1 g r1 r2 => hr φ Hf1 H1 x y d v u Q g.s r1 r2 h3 fun z Hf2 H2 g2 r3 => k z Hf2 H2 (g.trans g2) r3)
theorem ft_val (h : FE X O e F) (he : ∀ whole, isTrue e X.env whole = (do let v ← whole; standAt e.pos; holding [v] (truthy v)) := by intro _; rfl) : FT X O e (tB truD F) := by
  intro φ Hf0 H0 ρ σ Hf H c Q S hF k
  obtain ⟨d, hd, hc⟩ := tB_some hF
  refine toT (pt_truth peW he) ?_
  refine h φ Hf0 H0 ρ σ Hf H d _ S hd fun v Hf1 H1 g1 r1 => ⟨c, ?_, k Hf1 H1 g1⟩
  cases r1 <;> simp only [truD] at hc <;> try (cases hc; rfl)
  case str y => split at hc; rename_i hl; cases hc; exact ⟨hl, rfl⟩; cases hc
  case tup q r => cases hc; refine .inr (.inl ⟨_, SqT_same g1.s q, ?_⟩); cases r <;> rfl
  case lst q r => cases hc; refine .inl ⟨_, .inl (.inl (g1.s _ _ q)), ?_⟩; cases r <;> rfl
  case klst q r => cases hc; refine .inl ⟨_, g1.s.seq q, ?_⟩; cases r <;> rfl
  case obj => cases hc
  case ins => cases hc
  case dct => cases hc
theorem ft_not {T : Env → Option Bool} (h : FT X O e T) : FT X O (.UnaryOp .Not e pos) (tNot T) := by
  intro φ Hf0 H0 ρ σ Hf H c Q S hF k
  unfold tNot at hF
  split at hF
  · rename_i b hb
    cases hF
    exact toT (pt_not ptW) (h φ Hf0 H0 ρ σ Hf H b _ S hb fun Hf1 H1 g1 => k Hf1 H1 g1)
  · cases hF
/-- a chain of and, or -/
def FW (X : Cx) (O : List Nat) (e : Expr) (F : Env → Option Bool) : Prop :=
  ∃ t : TT, PW X e t ∧ ∀ (φ : Nat → Option Addr) (Hf0 H0 : Hp) (ρ : Env) (σ : St) (Hf H : Hp) (b : Bool) (Q : Bool → Hp → Prop), SR X.K φ Hf0 H0 O ρ σ Hf H → F ρ = some b → (∀ Hf' H', Gr Hf H Hf' H' → Q b H') → t σ H Q
theorem ft_w {T : Env → Option Bool} (h : FW X O e T) : FT X O e T := by
  obtain ⟨t, p, h⟩ := h
  intro φ Hf0 H0 ρ σ Hf H c Q S hF k
  exact toT p.pt (h φ Hf0 H0 ρ σ Hf H c Q S hF k)
theorem fw_and1 {T : Env → Option Bool} (h : FT X O e T) : FW X O (.BoolOp .And [e] pos) T := ⟨_, pw_and1 ptW, h⟩
theorem fw_or1 {T : Env → Option Bool} (h : FT X O e T) : FW X O (.BoolOp .Or [e] pos) T := ⟨_, pw_or1 ptW, h⟩
theorem fw_and {rest : List Expr} {T U : Env → Option Bool} (h : FT X O a T) (h2 : FW X O (.BoolOp .And (b :: rest) pos) U) : FW X O (.BoolOp .And (a :: b :: rest) pos) (tAnd T U) := by
  obtain ⟨t, p, h2⟩ := h2
  refine ⟨_, pw_and ptW p, fun φ Hf0 H0 ρ σ Hf H c Q S hF k => ?_⟩
  unfold tAnd at hF
  split at hF
  · rename_i hb
    refine h φ Hf0 H0 ρ σ Hf H true _ S hb fun Hf1 H1 g1 => ?_
    exact iteT (h2 φ Hf0 H0 ρ σ Hf1 H1 c Q (S.gr g1) hF fun Hf2 H2 g2 => k Hf2 H2 (g1.trans g2))
  · rename_i hb
    cases hF
    exact h φ Hf0 H0 ρ σ Hf H false _ S hb fun Hf1 H1 g1 => iteF (k Hf1 H1 g1)
  · cases hF
theorem fw_or {rest : List Expr} {T U : Env → Option Bool} (h : FT X O a T) (h2 : FW X O (.BoolOp .Or (b :: rest) pos) U) : FW X O (.BoolOp .Or (a :: b :: rest) pos) (tOr T U) := by
  obtain ⟨t, p, h2⟩ := h2
  refine ⟨_, pw_or ptW p, fun φ Hf0 H0 ρ σ Hf H c Q S hF k => ?_⟩
  unfold tOr at hF
  split at hF
  · rename_i hb
    cases hF
    exact h φ Hf0 H0 ρ σ Hf H true _ S hb fun Hf1 H1 g1 => iteT (k Hf1 H1 g1)
  · rename_i hb
    refine h φ Hf0 H0 ρ σ Hf H false _ S hb fun Hf1 H1 g1 => ?_
    exact iteF (h2 φ Hf0 H0 ρ σ Hf1 H1 c Q (S.gr g1) hF fun Hf2 H2 g2 => k Hf2 H2 (g1.trans g2))
  · cases hF
theorem fe_if {c : Expr} {T : Env → Option Bool} (h : FT X O c T) (h1 : FE X O a F) (h2 : FE X O b G) : FE X O (.IfExp c a b pos) (eIf T F G) := by
  intro φ Hf0 H0 ρ σ Hf H d Q S hF k
  refine toE (pe_ifExp ptW peW peW) ?_
  unfold eIf at hF
  split at hF
  · rename_i hb
    exact h φ Hf0 H0 ρ σ Hf H true _ S hb fun Hf1 H1 g1 => iteT (h1 φ Hf0 H0 ρ σ Hf1 H1 d Q (S.gr g1) hF fun v Hf2 H2 g2 r => k v Hf2 H2 (g1.trans g2) r)
  · rename_i hb
    exact h φ Hf0 H0 ρ σ Hf H false _ S hb fun Hf1 H1 g1 => iteF (h2 φ Hf0 H0 ρ σ Hf1 H1 d Q (S.gr g1) hF fun v Hf2 H2 g2 r => k v Hf2 H2 (g1.trans g2) r)
  · cases hF
/-! and, or, not as values -/
def eAnd (F G : Env → Option D) : Env → Option D := fun ρ => match F ρ with | some d => (match truD d with | some true => G ρ | some false => some d | none => none) | none => none
def eOr (F G : Env → Option D) : Env → Option D := fun ρ => match F ρ with | some d => (match truD d with | some true => some d | some false => G ρ | none => none) | none => none
def notD (d : D) : Option D := match truD d with | some b => some (.bl (!b)) | none => none
theorem tru_of {K : PySem.W.Frag} {φ : Nat → Option Addr} {Hf H : Hp} {d : D} {v : V} {c : Bool} (s : Same Hf H) (r1 : Rp K φ Hf d v) (hc : truD d = some c) : TruV K v H c := by
  cases r1 <;> simp only [truD] at hc <;> try (cases hc; rfl)
  case str y => split at hc; rename_i hl; cases hc; exact ⟨hl, rfl⟩; cases hc
  case tup q r => cases hc; refine .inr (.inl ⟨_, SqT_same s q, ?_⟩); cases r <;> rfl
  case lst q r => cases hc; refine .inl ⟨_, .inl (.inl (s _ _ q)), ?_⟩; cases r <;> rfl
  case klst q r => cases hc; refine .inl ⟨_, s.seq q, ?_⟩; cases r <;> rfl
  case obj => cases hc
  case ins => cases hc
  case dct => cases hc
theorem fe_and {rest : List Expr} (h : FE X O a F) (h2 : FE X O (.BoolOp .And (b :: rest) pos) G) : FE X O (.BoolOp .And (a :: b :: rest) pos) (eAnd F G) := by
  intro φ Hf0 H0 ρ σ Hf H d Q S hF k
  refine toE (pe_andT peW peW) ?_
  unfold eAnd at hF
  split at hF
  · rename_i x hx
    refine h φ Hf0 H0 ρ σ Hf H x _ S hx fun v Hf1 H1 g1 r1 => ?_
    split at hF
    · rename_i ht
      exact ⟨true, tru_of g1.s r1 ht, iteT (h2 φ Hf0 H0 ρ σ Hf1 H1 d Q (S.gr g1) hF fun v Hf2 H2 g2 r => k v Hf2 H2 (g1.trans g2) r)⟩
    · rename_i ht
      cases hF
      exact ⟨false, tru_of g1.s r1 ht, iteF (k v Hf1 H1 g1 r1)⟩
    · cases hF
  · cases hF
theorem fe_or {rest : List Expr} (h : FE X O a F) (h2 : FE X O (.BoolOp .Or (b :: rest) pos) G) : FE X O (.BoolOp .Or (a :: b :: rest) pos) (eOr F G) := by
  intro φ Hf0 H0 ρ σ Hf H d Q S hF k
  refine toE (pe_orT peW peW) ?_
  unfold eOr at hF
  split at hF
  · rename_i x hx
    refine h φ Hf0 H0 ρ σ Hf H x _ S hx fun v Hf1 H1 g1 r1 => ?_
    split at hF
    · rename_i ht
      cases hF
      exact ⟨true, tru_of g1.s r1 ht, iteT (k v Hf1 H1 g1 r1)⟩
    · rename_i ht
      exact ⟨false, tru_of g1.s r1 ht, iteF (h2 φ Hf0 H0 ρ σ Hf1 H1 d Q (S.gr g1) hF fun v Hf2 H2 g2 r => k v Hf2 H2 (g1.trans g2) r)⟩
    · cases hF
  · cases hF
theorem fe_one {op : BoolOp} (h : FE X O a F) : FE X O (.BoolOp op [a] pos) F := by
  intro φ Hf0 H0 ρ σ Hf H d Q S hF k
  exact toE (pe_one peW) (h φ Hf0 H0 ρ σ Hf H d Q S hF k)
theorem fe_not (h : FE X O a F) : FE X O (.UnaryOp .Not a pos) (e1 notD F) := by
  intro φ Hf0 H0 ρ σ Hf H d Q S hF k
  obtain ⟨x, h1, h2⟩ := e1_some hF
  refine toE (pe_notT peW) ?_
  refine h φ Hf0 H0 ρ σ Hf H x _ S h1 fun v Hf1 H1 g1 r1 => ?_
  unfold notD at h2
  split at h2
  · rename_i c hc
    cases h2
    exact ⟨c, tru_of g1.s r1 hc, k _ Hf1 H1 g1 (.bl _)⟩
  · cases h2
end
end FL
namespace FL
open PySem L2

/-! ### the value operations of the mirror -/
mutual
def toPy : D → PyData
  | .non => .none | .bl b => .bool b | .int i => .int i | .str x => .str x
  | .tup xs => .tuple (toPyAll xs) | .lst xs => .list (toPyAll xs) | .klst xs => .list (toPyAll xs) | .obj _ => .dict [] | .ins _ _ _ => .dict [] | .dct _ _ => .dict []
def toPyAll : List D → List PyData
  | [] => [] | x :: xs => toPy x :: toPyAll xs
end
mutual
def deq : D → D → Bool
  | .non, .non => true
  | .bl a, .bl b => a == b
  | .bl a, .int j => (if a then 1 else 0) == j
  | .int i, .bl b => i == (if b then 1 else 0)
  | .int i, .int j => i == j
  | .str x, .str y => x == y
  | .tup xs, .tup ys => deqAll xs ys
  | .lst xs, .lst ys => deqAll xs ys
  | .lst xs, .klst ys => deqAll xs ys
  | .klst xs, .lst ys => deqAll xs ys
  | .klst xs, .klst ys => deqAll xs ys
  | _, _ => false
def deqAll : List D → List D → Bool
  | [], [] => true
  | x :: xs, y :: ys => deq x y && deqAll xs ys
  | _, _ => false
end
def okD (d : D) : Bool := SeqAt.shaped (toPy d)
mutual
theorem deq_py : ∀ x y : D, deq x y = PyData.eqv (toPy x) (toPy y)
  | .non, y => by cases y <;> simp [deq, toPy, PyData.eqv]
  | .bl a, y => by cases y <;> simp [deq, toPy, PyData.eqv]
  | .int a, y => by cases y <;> simp [deq, toPy, PyData.eqv]
  | .str a, y => by cases y <;> simp [deq, toPy, PyData.eqv]
  | .obj a, y => by cases y <;> simp [deq, toPy, PyData.eqv]
  | .ins c fs xs, y => by cases y <;> simp [deq, toPy, PyData.eqv]
  | .dct fs xs, y => by cases y <;> simp [deq, toPy, PyData.eqv]
  | .tup xs, y => by
    cases y <;> simp only [deq, toPy, PyData.eqv]
    exact deqAll_py xs _
  | .lst xs, y => by
    cases y <;> simp only [deq, toPy, PyData.eqv]
    all_goals exact deqAll_py xs _
  | .klst xs, y => by
    cases y <;> simp only [deq, toPy, PyData.eqv]
    all_goals exact deqAll_py xs _
theorem deqAll_py : ∀ xs ys : List D, deqAll xs ys = PyData.eqvAll (toPyAll xs) (toPyAll ys)
  | [], [] => by simp [deqAll, toPyAll, PyData.eqvAll]
  | [], _ :: _ => by simp [deqAll, toPyAll, PyData.eqvAll]
  | _ :: _, [] => by simp [deqAll, toPyAll, PyData.eqvAll]
  | x :: xs, y :: ys => by
    simp only [deqAll, toPyAll, PyData.eqvAll]
    rw [deq_py x y, deqAll_py xs ys]
end
section
variable {K : PySem.W.Frag} {φ : Nat → Option Addr} {H : Hp}
mutual
theorem Rp.dp : ∀ {d : D} {v : V}, Rp K φ H d v → (toPy d).canLay0 = true → Dp K H v (toPy d)
  | _, _, .non, _ => .non
  | _, _, .bl b, _ => .bl b
  | _, _, .int i, _ => .int i
  | _, _, .str x, _ => .str x
  | _, _, .tup s r, h => .tup s (RpAll.dp r (by simpa [toPy, PyData.canLay0] using h))
  | _, _, .lst s r, h => .lst (.inl (.inl s)) (RpAll.dp r (by simpa [toPy, PyData.canLay0] using h))
  | _, _, .klst s r, h => .lst s (RpAll.dp r (by simpa [toPy, PyData.canLay0] using h))
  | _, _, .obj i, h => by simp [toPy, PyData.canLay0] at h
  | _, _, .ins s l r, h => by simp [toPy, PyData.canLay0] at h
  | _, _, .dct s l r, h => by simp [toPy, PyData.canLay0] at h
theorem RpAll.dp : ∀ {ds : List D} {vs : List V}, RpAll K φ H ds vs → PyData.canLayAll0 (toPyAll ds) = true → DpAll K H vs (toPyAll ds)
  | _, _, .nil, _ => .nil
  | _, _, .cons r t, h => by
    have h' := h
    simp only [toPyAll, PyData.canLayAll0, Bool.and_eq_true] at h'
    exact .cons (r.dp h'.1) (RpAll.dp t h'.2)
end
theorem Rp.dp' {d : D} {v : V} (r : Rp K φ H d v) (h : okD d = true) : Dp K H v (toPy d) := r.dp (SeqAt.canLay_of_shaped h)
end

def sEq (x y : Str) : Bool := x.cps.toList == y.cps.toList
theorem sEq_eq (x y : Str) : sEq x y = decide (x = y) := by
  unfold sEq
  rw [Bool.eq_iff_iff]
  simp only [beq_iff_eq, decide_eq_true_eq]
  constructor
  · intro h
    cases x with | mk a => cases y with | mk b => exact congrArg _ (Array.ext' h)
  · rintro rfl; rfl
/-- == where both sides are no objects -/
def scEq : D → D → Option Bool
  | .non, .non => some true | .non, .int _ => some false | .int _, .non => some false | .non, .bl _ => some false | .bl _, .non => some false | .non, .str _ => some false | .str _, .non => some false
  | .int i, .int j => some (i == j) | .bl a, .bl b => some (a == b) | .str a, .str b => some (sEq a b)
  | .int _, .str _ => some false | .str _, .int _ => some false | .bl _, .str _ => some false | .str _, .bl _ => some false
  | _, _ => none
def eqB (x y : D) : Option Bool := match scEq x y with | some b => some b | none => if okD x && okD y then some (deq x y) else none
def eqD (x y : D) : Option D := match eqB x y with | some b => some (.bl b) | none => none
def neD (x y : D) : Option D := match eqB x y with | some b => some (.bl (!b)) | none => none
def addD : D → D → Option D
  | .int i, .int j => some (.int (i + j))
  | .str a, .str b => if a.length + b.length ≤ sizeLine then some (.str (a ++ b)) else none
  | .tup xs, .tup ys => if xs.length + ys.length ≤ sizeLine then some (.tup (xs ++ ys)) else none
  | .lst xs, .lst ys => if xs.length + ys.length ≤ sizeLine then some (.lst (xs ++ ys)) else none
  | _, _ => none
def catD : D → D → Option D
  | .lst xs, .lst ys => if xs.length + ys.length ≤ sizeLine then some (.lst (xs ++ ys)) else none
  | _, _ => none
def subD : D → D → Option D | .int i, .int j => some (.int (i - j)) | _, _ => none
def mulD : D → D → Option D | .int i, .int j => if (-(2 ^ 64) < i ∧ i < 2 ^ 64) ∨ (-(2 ^ 64) < j ∧ j < 2 ^ 64) then some (.int (i * j)) else none | _, _ => none
def fdivD : D → D → Option D | .int i, .int j => if 0 < j ∧ j < 1073741824 then some (.int (i / j)) else none | _, _ => none
def modD : D → D → Option D | .int i, .int j => if 0 < j then some (.int (i % j)) else none | _, _ => none
def powD : D → D → Option D | .int i, .int j => if 0 ≤ j ∧ j ≤ 1000000 ∧ i.natAbs < 2 ^ 64 then some (.int (i ^ j.toNat)) else none | _, _ => none
def ltD : D → D → Option D | .int i, .int j => some (.bl (decide (i < j))) | _, _ => none
def leD : D → D → Option D | .int i, .int j => some (.bl (decide (i ≤ j))) | _, _ => none
def gtD : D → D → Option D | .int i, .int j => some (.bl (decide (j < i))) | _, _ => none
def geD : D → D → Option D | .int i, .int j => some (.bl (decide (j ≤ i))) | _, _ => none
def isB (x y : D) : Option Bool := match y with
  | .non => some (match x with | .non => true | _ => false)
  | .bl b => some (match x with | .bl c => c == b | _ => false)
  | _ => none
def isD (x y : D) : Option D := match isB x y with | some b => some (.bl b) | none => none
def isntD (x y : D) : Option D := match isB x y with | some b => some (.bl (!b)) | none => none
def flatD : D → Bool | .non => true | .bl _ => true | .int _ => true | .str _ => true | _ => false
def isLst : D → Bool | .lst _ => true | .klst _ => true | _ => false
def inB (x y : D) : Option Bool := match seqD y with
  | some xs => if flatD x && xs.all flatD then some (xs.any fun z => deq z x) else if isLst y && okD x && okD y then some (xs.any fun z => deq z x) else none
  | none => match x, y with
    | .str a, .str b => some (!(Builtin.Str.occurrences b a 0 b.length 1).isEmpty)
    | _, _ => none
def inD (x y : D) : Option D := match inB x y with | some b => some (.bl b) | none => none
def ninD (x y : D) : Option D := match inB x y with | some b => some (.bl (!b)) | none => none
def ixD (x y : D) : Option D := match y with
  | .int i => match x with
    | .lst xs => atI xs i | .klst xs => atI xs i | .tup xs => atI xs i
    | .str z => if z.length ≤ sizeLine then (match atI z.cps.toList i with | some c => some (.str ⟨#[c]⟩) | none => none) else none
    | _ => none
  | _ => none

section
variable {X : Cx}
def rBoolOp (p : Bool → Bool) (f : V → V → Option Bool) : R2 := fun x y H Q => ∃ b, f x y = some b ∧ Q (.bl (p b)) H
theorem Op2.or1 {K : PySem.W.Frag} {r r' : R2} {f : D → D → Option D} (h : Op2 K r f) : Op2 K (fun x y H Q => r x y H Q ∨ r' x y H Q) f := fun φ Hf H x y d v u Q s r1 r2 e k => .inl (h φ Hf H x y d v u Q s r1 r2 e k)

/-! int operations -/
theorem Rpb.int {K : PySem.W.Frag} {φ : Nat → Option Addr} {Hf H : Hp} {i : Int} {v : V} (r : Rpb K φ Hf H (.int i) v) : v = .int i := by
  rcases r with r | ⟨a, xs, vs, h1, _⟩
  · cases r; rfl
  · cases h1
theorem Rpb.str {K : PySem.W.Frag} {φ : Nat → Option Addr} {Hf H : Hp} {i : Str} {v : V} (r : Rpb K φ Hf H (.str i) v) : v = .str i := by
  rcases r with r | ⟨a, xs, vs, h1, _⟩
  · cases r; rfl
  · cases h1
theorem Rpb.tup {K : PySem.W.Frag} {φ : Nat → Option Addr} {Hf H : Hp} {xs : List D} {v : V} (r : Rpb K φ Hf H (.tup xs) v) : ∃ a vs, v = .ref a ∧ SqT K Hf a vs ∧ RpAll K φ Hf xs vs := by
  rcases r with r | ⟨a, xs, vs, h1, _⟩
  · cases r with | tup q r => exact ⟨_, _, rfl, q, r⟩
  · cases h1
theorem Rpb.lst {K : PySem.W.Frag} {φ : Nat → Option Addr} {Hf H : Hp} {xs : List D} {v : V} (s : Same Hf H) (r : Rpb K φ Hf H (.lst xs) v) : ∃ a vs, v = .ref a ∧ H a = some (.lst vs) ∧ RpAll K φ Hf xs vs := by
  rcases r with r | ⟨a, xs, vs, h1, h2, h3, h4⟩
  · cases r with | lst q r => exact ⟨_, _, rfl, s _ _ q, r⟩
  · cases h1; exact ⟨_, _, h2, h3, h4⟩
theorem Rpb.scal_v {K : PySem.W.Frag} {φ : Nat → Option Addr} {Hf H : Hp} {d : D} {v : V} (r : Rpb K φ Hf H d v) (h : scal d = true) : Rp K φ Hf d v := by
  rcases r with r | ⟨a, xs, vs, h1, h2, h3, h4⟩
  · exact r
  · subst h1; cases h
theorem o_sub {K} : Op2 K (rI0 fun i j => .int (i - j)) subD := fun φ Hf H x y d v u Q s r1 r2 e k => by
  unfold subD at e; split at e
  · cases e; exact ⟨_, _, r1.int, r2.int, k _ Hf H (.refl s) (.int _)⟩
  · cases e
theorem o_mul {K} : Op2 K (rI CMul fun i j => .int (i * j)) mulD := fun φ Hf H x y d v u Q s r1 r2 e k => by
  unfold mulD at e; split at e
  · split at e
    · rename_i c; cases e; exact ⟨_, _, r1.int, r2.int, c, k _ Hf H (.refl s) (.int _)⟩
    · cases e
  · cases e
theorem o_fdiv {K} : Op2 K (rI CDiv fun i j => .int (i / j)) fdivD := fun φ Hf H x y d v u Q s r1 r2 e k => by
  unfold fdivD at e; split at e
  · split at e
    · rename_i c; cases e; exact ⟨_, _, r1.int, r2.int, c, k _ Hf H (.refl s) (.int _)⟩
    · cases e
  · cases e
theorem o_mod {K} : Op2 K (rI (fun _ j => 0 < j) fun i j => .int (i % j)) modD := fun φ Hf H x y d v u Q s r1 r2 e k => by
  unfold modD at e; split at e
  · split at e
    · rename_i c; cases e; exact ⟨_, _, r1.int, r2.int, c, k _ Hf H (.refl s) (.int _)⟩
    · cases e
  · cases e
theorem o_pow {K} : Op2 K (rI CPow fun i j => .int (i ^ j.toNat)) powD := fun φ Hf H x y d v u Q s r1 r2 e k => by
  unfold powD at e; split at e
  · split at e
    · rename_i c; cases e; exact ⟨_, _, r1.int, r2.int, c, k _ Hf H (.refl s) (.int _)⟩
    · cases e
  · cases e
theorem o_lt {K} : Op2 K (rI0 fun i j => .bl (decide (i < j))) ltD := fun φ Hf H x y d v u Q s r1 r2 e k => by
  unfold ltD at e; split at e
  · cases e; exact ⟨_, _, r1.int, r2.int, k _ Hf H (.refl s) (.bl _)⟩
  · cases e
theorem o_le {K} : Op2 K (rI0 fun i j => .bl (decide (i ≤ j))) leD := fun φ Hf H x y d v u Q s r1 r2 e k => by
  unfold leD at e; split at e
  · cases e; exact ⟨_, _, r1.int, r2.int, k _ Hf H (.refl s) (.bl _)⟩
  · cases e
theorem o_gt {K} : Op2 K (rI0 fun i j => .bl (decide (j < i))) gtD := fun φ Hf H x y d v u Q s r1 r2 e k => by
  unfold gtD at e; split at e
  · cases e; exact ⟨_, _, r1.int, r2.int, k _ Hf H (.refl s) (.bl _)⟩
  · cases e
theorem o_ge {K} : Op2 K (rI0 fun i j => .bl (decide (j ≤ i))) geD := fun φ Hf H x y d v u Q s r1 r2 e k => by
  unfold geD at e; split at e
  · cases e; exact ⟨_, _, r1.int, r2.int, k _ Hf H (.refl s) (.bl _)⟩
  · cases e
/-! + -/
def rAddX (K : PySem.W.Frag) : R2 := fun x y H Q => (rI0 (fun i j => .int (i + j)) x y H Q ∨ (∃ i j, x = .str i ∧ y = .str j ∧ i.length + j.length ≤ sizeLine ∧ Q (.str (i ++ j)) H)) ∨ (rCat x y H Q ∨ rCatA K x y H Q)
theorem op_addX : OpR X (binaryOp .Add) (rAddX X.K) := OpR.or (OpR.or op_add op_add_str) (OpR.or op_cat op_catA)
theorem o_add {K} : Op2 K (rAddX K) addD := fun φ Hf H x y d v u Q s r1 r2 e k => by
  unfold addD at e; split at e
  · cases e; exact .inl (.inl ⟨_, _, r1.int, r2.int, k _ Hf H (.refl s) (.int _)⟩)
  · split at e
    · rename_i c; cases e; exact .inl (.inr ⟨_, _, r1.str, r2.str, c, k _ Hf H (.refl s) (.str _)⟩)
    · cases e
  · split at e
    · rename_i c; cases e
      obtain ⟨a, vs, e1, q1, w1⟩ := r1.tup
      obtain ⟨b, us, e2, q2, w2⟩ := r2.tup
      refine .inr (.inr ⟨a, b, vs, us, e1, e2, SqT_same s q1, SqT_same s q2, by rw [← w1.length, ← w2.length]; exact c, fun h => ?_, fun _ h => ?_, fun _ _ p hp => ?_⟩)
      · subst h; cases w1; exact k _ Hf H (.refl s) (.tup q2 w2)
      · subst h; cases w2; rw [List.append_nil] at k; exact k _ Hf H (.refl s) (.tup q1 w1)
      · have g : Gr Hf H _ _ := .new (o := .tup (vs ++ us)) s hp
        exact k _ _ _ g (.tup (.inl (.inl upd_same)) ((w1.append w2).mono g.f))
    · cases e
  · split at e
    · rename_i c; cases e
      obtain ⟨a, vs, e1, q1, w1⟩ := r1.lst s
      obtain ⟨b, us, e2, q2, w2⟩ := r2.lst s
      refine .inr (.inl ⟨a, b, vs, us, e1, e2, q1, q2, by rw [← w1.length, ← w2.length]; exact c, fun p hp => ?_⟩)
      have g : Gr Hf H _ _ := .new (o := .lst (vs ++ us)) s hp
      exact k _ _ _ g (.lst upd_same ((w1.append w2).mono g.f))
    · cases e
  · cases e
theorem o_cat {K} : Op2N K rCat catD := fun φ Hf H x y d v u Q s r1 r2 e k => by
  unfold catD at e; split at e
  · split at e
    · rename_i c; cases e
      obtain ⟨a, vs, e1, q1, w1⟩ := r1.lst s
      obtain ⟨b, us, e2, q2, w2⟩ := r2.lst s
      refine ⟨a, b, vs, us, e1, e2, q1, q2, by rw [← w1.length, ← w2.length]; exact c, fun p hp => ?_⟩
      have g : Gr Hf H _ _ := .own (o := .lst (vs ++ us)) s hp
      exact k p _ _ _ rfl g hp upd_same (w1.append w2)
    · cases e
  · cases e
/-! ==, is, in -/
theorem scEq_v {K : PySem.W.Frag} {φ : Nat → Option Addr} {Hf H : Hp} {x y : D} {v u : V} {b : Bool} (r1 : Rpb K φ Hf H x v) (r2 : Rpb K φ Hf H y u) (h : scEq x y = some b) : L2.scal v u = true ∧ decide (v = u) = b := by
  have hx : scal x = true := by cases x <;> first | rfl | (cases y <;> cases h)
  have hy : scal y = true := by cases y <;> first | rfl | (cases x <;> cases h)
  have w1 := r1.scal_v hx
  have w2 := r2.scal_v hy
  cases w1 <;> first | (cases hx) | skip
  all_goals (cases w2 <;> first | (cases hy) | skip)
  all_goals (simp only [scEq, Option.some.injEq, reduceCtorEq] at h)
  all_goals (subst h; refine ⟨rfl, ?_⟩)
  all_goals first | rfl | (simp [sEq_eq]; done) | (rw [Bool.eq_iff_iff]; simp [sEq_eq])
def rEqX (K : PySem.W.Frag) : R2 := fun x y H Q => rEq x y H Q ∨ rEqD K x y H Q
def rNeX (K : PySem.W.Frag) : R2 := fun x y H Q => rNe x y H Q ∨ rNeD K x y H Q
theorem op_eqX (hu : X.A.units + 64 < cLine) : OpR X (compareOp .Eq) (rEqX X.K) := OpR.or op_eq (op_eqD hu)
theorem op_neX (hu : X.A.units + 64 < cLine) : OpR X (compareOp .NotEq) (rNeX X.K) := OpR.or op_ne (op_neD hu)
theorem o_eq {K} : Op2 K (rEqX K) eqD := fun φ Hf H x y d v u Q s r1 r2 e k => by
  unfold eqD eqB at e
  cases hs : scEq x y with
  | some b =>
    rw [hs] at e; cases e
    obtain ⟨h1, h2⟩ := scEq_v r1 r2 hs
    exact .inl ⟨h1, by rw [h2]; exact k _ Hf H (.refl s) (.bl _)⟩
  | none =>
    rw [hs] at e; simp only at e
    by_cases hc : (okD x && okD y) = true
    · rw [if_pos hc] at e; cases e
      have hc' : okD x = true ∧ okD y = true := by simpa using hc
      exact .inr ⟨toPy x, toPy y, (r1.all s).dp' hc'.1, (r2.all s).dp' hc'.2, hc'.1, hc'.2, by rw [← deq_py]; exact k _ Hf H (.refl s) (.bl _)⟩
    · rw [if_neg hc] at e; cases e
theorem o_ne {K} : Op2 K (rNeX K) neD := fun φ Hf H x y d v u Q s r1 r2 e k => by
  unfold neD eqB at e
  cases hs : scEq x y with
  | some b =>
    rw [hs] at e; cases e
    obtain ⟨h1, h2⟩ := scEq_v r1 r2 hs
    exact .inl ⟨h1, by rw [h2]; exact k _ Hf H (.refl s) (.bl _)⟩
  | none =>
    rw [hs] at e; simp only at e
    by_cases hc : (okD x && okD y) = true
    · rw [if_pos hc] at e; cases e
      have hc' : okD x = true ∧ okD y = true := by simpa using hc
      exact .inr ⟨toPy x, toPy y, (r1.all s).dp' hc'.1, (r2.all s).dp' hc'.2, hc'.1, hc'.2, by rw [← deq_py]; exact k _ Hf H (.refl s) (.bl _)⟩
    · rw [if_neg hc] at e; cases e
def isV (x y : V) : Option Bool := match y with
  | .non => some (decide (x = .non)) | .bl b => some (decide (x = .bl b)) | _ => none
theorem plain_of {x : V} {v : Value} (r : RelV x v) (b : Bool) : plainIs v (.bool b) = true := by
  cases x <;> first | (obtain ⟨t, rfl⟩ := r; rfl) | (cases r; rfl)
theorem bool_iff {x : V} {v : Value} (r : RelV x v) (b : Bool) : (v == Value.bool b) = decide (x = .bl b) := by
  rw [Bool.eq_iff_iff]
  simp only [beq_iff_eq, decide_eq_true_eq]
  cases x with
  | bl c =>
    cases r
    constructor
    · intro h; cases h; rfl
    · intro h; cases h; rfl
  | _ =>
    first
      | (obtain ⟨t, rfl⟩ := r; constructor <;> (intro h; cases h))
      | (cases r; constructor <;> (intro h; cases h))
theorem op_isX : OpR X (compareOp .Is) (rBoolOp id isV) := by
  intro pins s σ H x y v u Q I rx ry h
  obtain ⟨b, e, q⟩ := h
  cases y with
  | non =>
    simp only [isV, Option.some.injEq] at e
    subst e
    exact op_isN pins s σ H x _ v u Q I rx ry ⟨rfl, q⟩
  | bl c =>
    simp only [isV, Option.some.injEq] at e
    subst e
    cases (show u = Value.bool c from ry)
    refine wpAny_is_plain (plain_of rx c) ⟨.bl (decide (x = .bl c)), H, I, ?_, q⟩
    rw [bool_iff rx c]; rfl
  | _ => simp [isV] at e
theorem op_isntX : OpR X (compareOp .IsNot) (rBoolOp not isV) := by
  intro pins s σ H x y v u Q I rx ry h
  obtain ⟨b, e, q⟩ := h
  cases y with
  | non =>
    simp only [isV, Option.some.injEq] at e
    subst e
    exact op_notN pins s σ H x _ v u Q I rx ry ⟨rfl, q⟩
  | bl c =>
    simp only [isV, Option.some.injEq] at e
    subst e
    cases (show u = Value.bool c from ry)
    refine wpAny_isNot_plain (plain_of rx c) ⟨.bl (!decide (x = .bl c)), H, I, ?_, q⟩
    rw [bool_iff rx c]; rfl
  | _ => simp [isV] at e
theorem isB_v {K : PySem.W.Frag} {φ : Nat → Option Addr} {Hf H : Hp} {x y : D} {v u : V} {b : Bool} (r1 : Rpb K φ Hf H x v) (r2 : Rpb K φ Hf H y u) (h : isB x y = some b) : isV v u = some b := by
  unfold isB at h
  split at h
  · cases h
    cases r2.scal_v rfl
    rcases r1 with r1 | ⟨a, xs, vs, h1, h2, h3, h4⟩
    · cases r1 <;> rfl
    · subst h1 h2; rfl
  · rename_i c
    cases h
    cases r2.scal_v rfl
    rcases r1 with r1 | ⟨a, xs, vs, h1, h2, h3, h4⟩
    · cases r1 <;> simp [isV]
      rw [Bool.eq_iff_iff]; simp
    · subst h1 h2; rfl
  · cases h
theorem o_is {K} : Op2 K (rBoolOp id isV) isD := fun φ Hf H x y d v u Q s r1 r2 e k => by
  unfold isD at e; split at e
  · rename_i b hb; cases e; exact ⟨b, isB_v r1 r2 hb, k _ Hf H (.refl s) (.bl _)⟩
  · cases e
theorem o_isnt {K} : Op2 K (rBoolOp not isV) isntD := fun φ Hf H x y d v u Q s r1 r2 e k => by
  unfold isntD at e; split at e
  · rename_i b hb; cases e; exact ⟨b, isB_v r1 r2 hb, k _ Hf H (.refl s) (.bl _)⟩
  · cases e
theorem flat_v {K : PySem.W.Frag} {φ : Nat → Option Addr} {H : Hp} {x : D} {v : V} (r : Rp K φ H x v) (h : flatD x = true) : flatV v = true := by
  cases r <;> first | rfl | (cases h)
theorem flat_all {K : PySem.W.Frag} {φ : Nat → Option Addr} {H : Hp} : ∀ {xs : List D} {vs : List V}, RpAll K φ H xs vs → xs.all flatD = true → vs.all flatV = true
  | _, _, .nil, _ => rfl
  | _, _, .cons r t, h => by
    simp only [List.all_cons, Bool.and_eq_true] at h ⊢
    exact ⟨flat_v r h.1, flat_all t h.2⟩
theorem eqV_deq {K : PySem.W.Frag} {φ : Nat → Option Addr} {H H2 : Hp} {x y : D} {v u : V} (r : Rp K φ H x v) (q : Rp K φ H2 y u) (hx : flatD x = true) (hy : flatD y = true) : eqV v u = deq x y := by
  cases r <;> first | (cases hx) | skip
  all_goals (cases q <;> first | (cases hy) | skip)
  all_goals first | rfl | (simp [eqV, deq])
theorem inV_any {K : PySem.W.Frag} {φ : Nat → Option Addr} {H H2 : Hp} {x : D} {v : V} (r : Rp K φ H2 x v) (hx : flatD x = true) : ∀ {xs : List D} {vs : List V}, RpAll K φ H xs vs → xs.all flatD = true → inV v vs = xs.any fun z => deq z x
  | _, _, .nil, _ => rfl
  | _, _, .cons q t, h => by
    simp only [List.all_cons, Bool.and_eq_true] at h
    have ih := inV_any r hx t h.2
    unfold inV at ih ⊢
    rw [List.any_cons, List.any_cons, ih, eqV_deq q r h.1 hx]
def rInX (K : PySem.W.Frag) : R2 := fun x y H Q => (rIn K false x y H Q ∨ rInD K x y H Q) ∨ (∃ i j, x = .str i ∧ y = .str j ∧ Q (.bl (!(Builtin.Str.occurrences j i 0 j.length 1).isEmpty)) H)
def rNinX (K : PySem.W.Frag) : R2 := fun x y H Q => (rIn K true x y H Q ∨ rNotInD K x y H Q) ∨ (∃ i j, x = .str i ∧ y = .str j ∧ Q (.bl (!(!(Builtin.Str.occurrences j i 0 j.length 1).isEmpty))) H)
theorem op_inX (hu : X.A.units + 65 < cLine) : OpR X (compareOp .In) (rInX X.K) := OpR.or (OpR.or op_in_seq (op_inD hu)) op_in_str
theorem op_ninX (hu : X.A.units + 65 < cLine) : OpR X (compareOp .NotIn) (rNinX X.K) := OpR.or (OpR.or op_notIn_seq (op_notInD hu)) op_notIn_str
theorem any_py {d : D} : ∀ xs : List D, (toPyAll xs).any (fun z => PyData.eqv z (toPy d)) = xs.any fun z => deq z d
  | [] => rfl
  | x :: xs => by
    show (toPy x :: toPyAll xs).any _ = _
    rw [List.any_cons, List.any_cons, any_py xs, deq_py]
theorem toPy_lst {y : D} {xs : List D} (h : seqD y = some xs) (hl : isLst y = true) : toPy y = .list (toPyAll xs) := by
  cases y with
  | lst ys => simp only [seqD, Option.some.injEq] at h; subst h; simp [toPy]
  | klst ys => simp only [seqD, Option.some.injEq] at h; subst h; simp [toPy]
  | _ => cases hl
theorem o_in {K} : Op2 K (rInX K) inD := fun φ Hf H x y d v u Q s r1 r2 e k => by
  unfold inD at e; split at e
  · rename_i b hb; cases e
    unfold inB at hb
    split at hb
    · rename_i xs hx
      split at hb
      · rename_i hc
        cases hb
        have hc' : flatD x = true ∧ xs.all flatD = true := by simpa [List.all_eq_true] using hc
        obtain ⟨p, vs, e1, e2, e3⟩ := r2.seq s hx
        have w1 := r1.scal_v (by cases x <;> first | rfl | (cases hc'.1))
        exact .inl (.inl ⟨p, vs, e1, e2, flat_v w1 hc'.1, flat_all e3 hc'.2, by
          show Q (.bl (if false = true then _ else inV v vs)) H
          rw [if_neg Bool.false_ne_true, inV_any w1 hc'.1 e3 hc'.2]; exact k _ Hf H (.refl s) (.bl _)⟩)
      · split at hb
        · rename_i hc
          cases hb
          have hc' : (isLst y = true ∧ okD x = true) ∧ okD y = true := by simpa using hc
          have e4 := toPy_lst hx hc'.1.1
          have h5 : okD y = true := hc'.2
          refine .inl (.inr ⟨toPy x, toPyAll xs, (r1.all s).dp' hc'.1.2, by rw [← e4]; exact (r2.all s).dp' h5, hc'.1.2, by rw [← e4]; exact h5, ?_⟩)
          rw [any_py]; exact k _ Hf H (.refl s) (.bl _)
        · cases hb
    · split at hb
      · cases hb
        exact .inr ⟨_, _, r1.str, r2.str, k _ Hf H (.refl s) (.bl _)⟩
      · cases hb
  · cases e
theorem o_nin {K} : Op2 K (rNinX K) ninD := fun φ Hf H x y d v u Q s r1 r2 e k => by
  unfold ninD at e; split at e
  · rename_i b hb; cases e
    unfold inB at hb
    split at hb
    · rename_i xs hx
      split at hb
      · rename_i hc
        cases hb
        have hc' : flatD x = true ∧ xs.all flatD = true := by simpa [List.all_eq_true] using hc
        obtain ⟨p, vs, e1, e2, e3⟩ := r2.seq s hx
        have w1 := r1.scal_v (by cases x <;> first | rfl | (cases hc'.1))
        exact .inl (.inl ⟨p, vs, e1, e2, flat_v w1 hc'.1, flat_all e3 hc'.2, by
          show Q (.bl (if true = true then !inV v vs else _)) H
          rw [if_pos rfl, inV_any w1 hc'.1 e3 hc'.2]; exact k _ Hf H (.refl s) (.bl _)⟩)
      · split at hb
        · rename_i hc
          cases hb
          have hc' : (isLst y = true ∧ okD x = true) ∧ okD y = true := by simpa using hc
          have e4 := toPy_lst hx hc'.1.1
          have h5 : okD y = true := hc'.2
          refine .inl (.inr ⟨toPy x, toPyAll xs, (r1.all s).dp' hc'.1.2, by rw [← e4]; exact (r2.all s).dp' h5, hc'.1.2, by rw [← e4]; exact h5, ?_⟩)
          rw [any_py]; exact k _ Hf H (.refl s) (.bl _)
        · cases hb
    · split at hb
      · cases hb
        exact .inr ⟨_, _, r1.str, r2.str, k _ Hf H (.refl s) (.bl _)⟩
      · cases hb
  · cases e
/-! items -/
theorem atI_rp {K : PySem.W.Frag} {φ : Nat → Option Addr} {H : Hp} {xs : List D} {vs : List V} {i : Int} {d : D} (r : RpAll K φ H xs vs) (h : atI xs i = some d) : ∃ v, atI vs i = some v ∧ Rp K φ H d v := by
  unfold atI at h ⊢
  rw [r.length] at h
  cases q : ixN vs.length i with
  | none => rw [q] at h; cases h
  | some j =>
    rw [q] at h
    exact r.get h
theorem o_ix {K} : Op2 K (rIx K) ixD := fun φ Hf H x y d v u Q s r1 r2 e k => by
  unfold ixD at e; split at e
  · rename_i i
    have hu := r2.int
    subst hu
    split at e
    · obtain ⟨a, vs, e1, q1, w1⟩ := r1.lst s
      obtain ⟨z, h1, h2⟩ := atI_rp w1 e
      exact .inl ⟨a, vs, i, z, e1, rfl, .inl (.inl q1), h1, k z Hf H (.refl s) h2⟩
    · rename_i xs
      obtain ⟨p, vs, e1, e2, e3⟩ := r1.seq s (xs := xs) rfl
      obtain ⟨z, h1, h2⟩ := atI_rp e3 e
      rcases e2 with e2 | e2
      · exact .inl ⟨p, vs, i, z, e1, rfl, e2, h1, k z Hf H (.refl s) h2⟩
      · exact .inr (.inl ⟨p, vs, i, z, e1, rfl, e2, h1, k z Hf H (.refl s) h2⟩)
    · obtain ⟨a, vs, e1, q1, w1⟩ := r1.tup
      obtain ⟨z, h1, h2⟩ := atI_rp w1 e
      exact .inr (.inl ⟨a, vs, i, z, e1, rfl, SqT_same s q1, h1, k z Hf H (.refl s) h2⟩)
    · have hv := r1.str
      subst hv
      split at e
      · rename_i hl
        split at e
        · rename_i c hc
          cases e
          exact .inr (.inr ⟨_, i, c, rfl, rfl, hl, hc, k _ Hf H (.refl s) (.str _)⟩)
        · cases e
      · cases e
    · cases e
  · cases e
end
end FL
namespace FL
open PySem L2

/-! ### slices -/
def FO (X : Cx) (O : List Nat) (e : Option Expr) (F : Env → Option (Option Int)) : Prop :=
  ∃ t : TO, PO X e t ∧ ∀ (φ : Nat → Option Addr) (Hf0 H0 : Hp) (ρ : Env) (σ : St) (Hf H : Hp) (o : Option Int) (Q : Option Int → Hp → Prop), SR X.K φ Hf0 H0 O ρ σ Hf H → F ρ = some o → (∀ Hf' H', Gr Hf H Hf' H' → Q o H') → t σ H Q
def pNo : Env → Option (Option Int) := fun _ => some none
def pYes (F : Env → Option D) : Env → Option (Option Int) := fun ρ => match F ρ with | some (.int i) => some (some i) | _ => none
def cutL (xs : List D) (lo hi : Option Int) : List D := (xs.drop (HT.sIx xs.length 0 lo)).take (HT.sIx xs.length xs.length hi - HT.sIx xs.length 0 lo)
def slD (x : D) (lo hi : Option Int) : Option D := match x with
  | .lst xs => some (.lst (cutL xs lo hi)) | .klst xs => some (.lst (cutL xs lo hi)) | .tup xs => some (.tup (cutL xs lo hi))
  | .str z => if z.length ≤ sizeLine then some (.str (cutS z lo hi)) else none | _ => none
def slN (x : D) (lo hi : Option Int) : Option D := match x with
  | .lst xs => some (.lst (cutL xs lo hi)) | .klst xs => some (.lst (cutL xs lo hi)) | _ => none
def eSl (f : D → Option Int → Option Int → Option D) (F : Env → Option D) (L U : Env → Option (Option Int)) : Env → Option D := fun ρ =>
  match F ρ with | some x => (match L ρ with | some l => (match U ρ with | some u => f x l u | none => none) | none => none) | none => none
section
variable {X : Cx} {O : List Nat} {e : Expr} {F : Env → Option D} {p2 pos : Pos} {lo hi : Option Expr} {L U : Env → Option (Option Int)}
theorem fo_no : FO X O none pNo := ⟨_, po_none, fun φ Hf0 H0 ρ σ Hf H o Q S h k => by cases h; exact k Hf H (.refl S.sub)⟩
theorem fo_yes (h : FE X O e F) : FO X O (some e) (pYes F) := ⟨_, po_some peW, fun φ Hf0 H0 ρ σ Hf H o Q S hF k => by
  unfold pYes at hF
  split at hF
  · rename_i i hi
    cases hF
    refine h φ Hf0 H0 ρ σ Hf H _ _ S hi fun v Hf1 H1 g r => ?_
    cases r
    exact ⟨i, rfl, k Hf1 H1 g⟩
  · cases hF⟩
theorem eSl_some {f : D → Option Int → Option Int → Option D} {ρ : Env} {d : D} (h : eSl f F L U ρ = some d) : ∃ x l u, F ρ = some x ∧ L ρ = some l ∧ U ρ = some u ∧ f x l u = some d := by
  unfold eSl at h
  cases h1 : F ρ with
  | none => rw [h1] at h; cases h
  | some x =>
    simp only [h1] at h
    cases h2 : L ρ with
    | none => simp only [h2] at h; cases h
    | some l =>
      simp only [h2] at h
      cases h3 : U ρ with
      | none => simp only [h3] at h; cases h
      | some u => simp only [h3] at h; exact ⟨x, l, u, rfl, rfl, rfl, h⟩
theorem cut_rp {K : PySem.W.Frag} {φ : Nat → Option Addr} {H : Hp} {xs : List D} {vs : List V} (r : RpAll K φ H xs vs) (lo hi : Option Int) : RpAll K φ H (cutL xs lo hi) (cutV vs lo hi) := by
  unfold cutL cutV
  rw [r.length]
  exact (r.drop _).take _
def rSlX (K : PySem.W.Frag) : V → Option Int → Option Int → Hp → VK → Prop := fun x lo hi H Q => (rSlL K x lo hi H Q ∨ rSlA K x lo hi H Q) ∨ rSlS x lo hi H Q
theorem sl_X : SlR X (rSlX X.K) := SlR.or (SlR.or sl_list sl_tupA) sl_str
theorem fe_sl (h : FB X O e F) (hl : FO X O lo L) (hu : FO X O hi U) : FE X O (.Subscript e (.Slice lo hi none p2) pos) (eSl slD F L U) := by
  obtain ⟨tl, pl, kl⟩ := hl
  obtain ⟨tu, pu, ku⟩ := hu
  intro φ Hf0 H0 ρ σ Hf H d Q S hF k
  obtain ⟨x, l, u, h1, h2, h3, h4⟩ := eSl_some hF
  refine toE (pe_slice sl_X peW pl pu) ?_
  refine h φ Hf0 H0 ρ σ Hf H x _ S h1 fun v Hf1 H1 g1 r1 => ?_
  refine kl φ Hf0 H0 ρ σ Hf1 H1 l _ (S.gr g1) h2 fun Hf2 H2 g2 => ?_
  refine ku φ Hf0 H0 ρ σ Hf2 H2 u _ ((S.gr g1).gr g2) h3 fun Hf3 H3 g3 => ?_
  have g := g1.trans (g2.trans g3)
  have r := r1.gr (g2.trans g3)
  unfold slD at h4
  split at h4
  · rename_i xs
    cases h4
    obtain ⟨p, vs, e1, e2, e3⟩ := r.lst g3.s
    refine .inl (.inl ⟨p, vs, e1, .inl (.inl e2), fun q hq => ?_⟩)
    have gn : Gr Hf3 H3 _ _ := .new (o := .lst (cutV vs l u)) g3.s hq
    exact k _ _ _ (g.trans gn) (.lst upd_same ((cut_rp e3 l u).mono gn.f))
  · rename_i xs
    cases h4
    rcases r with r | ⟨_, _, _, h, _⟩
    · cases r with
      | klst q r =>
        rename_i vs
        refine .inl (.inl ⟨_, vs, rfl, g3.s.seq q, fun q hq => ?_⟩)
        have gn : Gr Hf3 H3 _ _ := .new (o := .lst (cutV vs l u)) g3.s hq
        exact k _ _ _ (g.trans gn) (.lst upd_same ((cut_rp r l u).mono gn.f))
    · cases h
  · rename_i xs
    cases h4
    obtain ⟨p, vs, e1, e2, e3⟩ := r.tup
    refine .inl (.inr ⟨p, vs, e1, SqT_same g3.s e2, fun hw => ?_, fun _ q hq => ?_⟩)
    · have e4 : cutL xs l u = xs := by
        unfold cutL
        rw [e3.length, hw.1, hw.2]
        rw [List.drop_zero, ← e3.length]
        simp
      rw [e4] at k
      exact k _ _ _ g (e1 ▸ .tup e2 e3)
    · have gn : Gr Hf3 H3 _ _ := .new (o := .tup (cutV vs l u)) g3.s hq
      exact k _ _ _ (g.trans gn) (.tup (.inl (.inl upd_same)) ((cut_rp e3 l u).mono gn.f))
  · split at h4
    · rename_i hz
      cases h4
      have := r.str
      subst this
      exact .inr ⟨_, rfl, hz, k _ _ _ g (.str _)⟩
    · cases h4
  · cases h4
theorem fn_sl (h : FB X O e F) (hl : FO X O lo L) (hu : FO X O hi U) : FN X O (.Subscript e (.Slice lo hi none p2) pos) (eSl slN F L U) := by
  obtain ⟨tl, pl, kl⟩ := hl
  obtain ⟨tu, pu, ku⟩ := hu
  intro φ Hf0 H0 ρ σ Hf H d Q S hF k
  obtain ⟨x, l, u, h1, h2, h3, h4⟩ := eSl_some hF
  refine toE (pe_slice sl_list peW pl pu) ?_
  refine h φ Hf0 H0 ρ σ Hf H x _ S h1 fun v Hf1 H1 g1 r1 => ?_
  refine kl φ Hf0 H0 ρ σ Hf1 H1 l _ (S.gr g1) h2 fun Hf2 H2 g2 => ?_
  refine ku φ Hf0 H0 ρ σ Hf2 H2 u _ ((S.gr g1).gr g2) h3 fun Hf3 H3 g3 => ?_
  have g := g1.trans (g2.trans g3)
  have r := r1.gr (g2.trans g3)
  unfold slN at h4
  split at h4
  · rename_i xs
    cases h4
    obtain ⟨p, vs, e1, e2, e3⟩ := r.lst g3.s
    refine ⟨p, vs, e1, .inl (.inl e2), fun q hq => ?_⟩
    have gn : Gr Hf3 H3 _ _ := .own (o := .lst (cutV vs l u)) g3.s hq
    exact k q _ _ _ _ rfl (g.trans gn) (g.h.free hq) (g3.s.free hq) upd_same (cut_rp e3 l u)
  · rename_i xs
    cases h4
    rcases r with r | ⟨_, _, _, h, _⟩
    · cases r with
      | klst q r =>
        rename_i vs
        refine ⟨_, vs, rfl, g3.s.seq q, fun q hq => ?_⟩
        have gn : Gr Hf3 H3 _ _ := .own (o := .lst (cutV vs l u)) g3.s hq
        exact k q _ _ _ _ rfl (g.trans gn) (g.h.free hq) (g3.s.free hq) upd_same (cut_rp r l u)
    · cases h
  · cases h4
/-- x[::-1] of a list -/
def revD (x : D) : Option D := match x with | .lst xs => some (.lst xs.reverse) | .klst xs => some (.lst xs.reverse) | _ => none
theorem fn_rev {k : Nat} {p1 p3 : Pos} (h : FB X O e F) : FN X O (.Subscript e (.Slice none none (some (.UnaryOp .USub (.Constant (.int 1) k p1) p2)) p3) pos) (e1 revD F) := by
  intro φ Hf0 H0 ρ σ Hf H d Q S hF k
  obtain ⟨x, h1, h2⟩ := e1_some hF
  refine toE (pe_revL peW) ?_
  refine h φ Hf0 H0 ρ σ Hf H x _ S h1 fun v Hf1 H1 g1 r1 => ?_
  have hs : ∃ xs, seqD x = some xs ∧ isLst x = true ∧ d = .lst xs.reverse := by
    unfold revD at h2; split at h2 <;> first | (cases h2; exact ⟨_, rfl, rfl, rfl⟩) | cases h2
  obtain ⟨xs, hx, hl, rfl⟩ := hs
  have hq : ∃ p vs, v = .ref p ∧ SqL X.K H1 p vs ∧ RpAll X.K φ Hf1 xs vs := by
    cases x <;> first | (cases hl) | skip
    · obtain ⟨p, vs, e1, e2, e3⟩ := r1.lst g1.s
      cases hx
      exact ⟨p, vs, e1, .inl (.inl e2), e3⟩
    · cases hx
      rcases r1 with r1 | ⟨_, _, _, h, _⟩
      · cases r1 with | klst q r => exact ⟨_, _, rfl, g1.s.seq q, r⟩
      · cases h
  obtain ⟨p, vs, e1, e2, e3⟩ := hq
  refine ⟨p, vs, e1, e2, fun q hq => ?_⟩
  have gn : Gr Hf1 H1 _ _ := .own (o := .lst vs.reverse) g1.s hq
  exact k q _ _ _ _ rfl (g1.trans gn) (g1.h.free hq) (g1.s.free hq) upd_same e3.reverse
end

end FL
namespace FL
open PySem L2

/-! ### built-in calls by values -/
section
variable {X : Cx} {O : List Nat} {e : Expr} {es : List Expr} {x : Str} {p pos : Pos} {F : Env → Option D} {Fs : Env → Option (List D)} {bid T : String} {r : List V → Hp → VK → Prop} {f : List D → Option D}
theorem CallR.or {v : Value} {r' : List V → Hp → VK → Prop} (h : CallR X v r) (h' : CallR X v r') : CallR X v (fun xs H Q => r xs H Q ∨ r' xs H Q) := fun pins s σ H xs us Q I rl q => q.elim (h pins s σ H xs us Q I rl) (h' pins s σ H xs us Q I rl)
theorem fe_callB (hc : CallR X (.builtin bid) r) (hr : OpL X.K r f) (hg : Gl X x) (hm : X.mg x = none) (hv : bootBuiltins x = some (.builtin bid)) (ha : FBA X O (e :: es) Fs) (hn : x ≠ "__name__" := by decide +kernel) (hdb : (x == ("__debug__" : Str)) = false := by decide +kernel)
    (he : starEach (e :: es) X.env = (false, eval e X.env) :: starEach es X.env := by rfl) (hpl : (backTo pos (starEach es X.env)).any (·.1) = false := by rfl) : FE X O (.Call (.Name x p) (e :: es) [] pos) (eL f Fs) := by
  intro φ Hf0 H0 ρ σ Hf H d Q S hF k
  obtain ⟨xs, h1, h2⟩ := eL_some hF
  refine toE (pe_callB hc hg hm hv paW hn hdb he hpl) ?_
  exact ha φ Hf0 H0 ρ σ Hf H xs _ S h1 fun vs Hf1 H1 g1 r1 => hr φ Hf1 H1 xs d vs Q g1.s r1 h2 fun z Hf2 H2 g2 r2 => k z Hf2 H2 (g1.trans g2) r2
theorem fe_callTy (hc : CallR X (.type T) r) (hr : OpL X.K r f) (hg : Gl X x) (hm : X.mg x = none) (hv : bootBuiltins x = some (.type T)) (ha : FBA X O (e :: es) Fs) (hn : x ≠ "__name__" := by decide +kernel) (hdb : (x == ("__debug__" : Str)) = false := by decide +kernel)
    (he : starEach (e :: es) X.env = (false, eval e X.env) :: starEach es X.env := by rfl) (hpl : (backTo pos (starEach es X.env)).any (·.1) = false := by rfl) : FE X O (.Call (.Name x p) (e :: es) [] pos) (eL f Fs) := by
  intro φ Hf0 H0 ρ σ Hf H d Q S hF k
  obtain ⟨xs, h1, h2⟩ := eL_some hF
  refine toE (pe_callTy hc hg hm hv paW hn hdb he hpl) ?_
  exact ha φ Hf0 H0 ρ σ Hf H xs _ S h1 fun vs Hf1 H1 g1 r1 => hr φ Hf1 H1 xs d vs Q g1.s r1 h2 fun z Hf2 H2 g2 r2 => k z Hf2 H2 (g1.trans g2) r2
theorem fn_callTy (hc : CallR X (.type T) r) (hr : OpLN X.K r f) (hg : Gl X x) (hm : X.mg x = none) (hv : bootBuiltins x = some (.type T)) (ha : FBA X O (e :: es) Fs) (hn : x ≠ "__name__" := by decide +kernel) (hdb : (x == ("__debug__" : Str)) = false := by decide +kernel)
    (he : starEach (e :: es) X.env = (false, eval e X.env) :: starEach es X.env := by rfl) (hpl : (backTo pos (starEach es X.env)).any (·.1) = false := by rfl) : FN X O (.Call (.Name x p) (e :: es) [] pos) (eL f Fs) := by
  intro φ Hf0 H0 ρ σ Hf H d Q S hF k
  obtain ⟨xs, h1, h2⟩ := eL_some hF
  refine toE (pe_callTy hc hg hm hv paW hn hdb he hpl) ?_
  exact ha φ Hf0 H0 ρ σ Hf H xs _ S h1 fun vs Hf1 H1 g1 r1 => hr φ Hf1 H1 xs d vs Q g1.s r1 h2 fun a ys us H2 hd g2 q1 q2 r2 => k a ys us Hf1 H2 hd (g1.trans g2) (g1.h.free q1) (g1.s.free q1) q2 r2

/-! len, int, tuple, list, ord, any, all -/
def lenD : List D → Option D := fun xs => match xs with
  | [x] => (match seqD x with | some ys => some (.int ys.length) | none => (match x with | .str z => if z.length ≤ sizeLine then some (.int z.length) else none | _ => none))
  | _ => none
def intD : List D → Option D := fun xs => match xs with | [.int i] => some (.int i) | [.bl b] => some (.int (if b then 1 else 0)) | _ => none
def tupOf : List D → Option D := fun xs => match xs with | [x] => (match seqD x with | some ys => some (.tup ys) | none => none) | _ => none
def listOf : List D → Option D := fun xs => match xs with | [x] => (match seqD x with | some ys => some (.lst ys) | none => none) | _ => none
def ordD : List D → Option D := fun xs => match xs with | [.str x] => if x.length = 1 then some (.int (x.cps.getD 0 0 : Nat)) else none | _ => none
def allBl : List D → Option (List Bool)
  | [] => some [] | .bl b :: ds => (match allBl ds with | some bs => some (b :: bs) | none => none) | _ :: _ => none
def anyD : List D → Option D := fun xs => match xs with | [x] => if isLst x then (match seqD x with | some ys => (match allBl ys with | some bs => some (.bl (bs.any id)) | none => none) | none => none) else none | _ => none
def allD : List D → Option D := fun xs => match xs with | [x] => if isLst x then (match seqD x with | some ys => (match allBl ys with | some bs => some (.bl (bs.all id)) | none => none) | none => none) else none | _ => none
theorem RpbAll.one {K : PySem.W.Frag} {φ : Nat → Option Addr} {Hf H : Hp} {d : D} {vs : List V} (r : RpbAll K φ Hf H [d] vs) : ∃ v, vs = [v] ∧ Rpb K φ Hf H d v := by
  cases r with | cons r t => cases t; exact ⟨_, rfl, r⟩
theorem c_len : CallR X (.builtin "len") (fun xs H Q => (∃ p ys, xs = [.ref p] ∧ (SqL X.K H p ys ∨ SqT X.K H p ys) ∧ Q (.int ys.length) H) ∨ (∃ z, xs = [.str z] ∧ z.length ≤ sizeLine ∧ Q (.int z.length) H)) := CallR.or call_len_seq call_len_str
theorem l_len {K} : OpL K (fun xs H Q => (∃ p ys, xs = [.ref p] ∧ (SqL K H p ys ∨ SqT K H p ys) ∧ Q (.int ys.length) H) ∨ (∃ z, xs = [.str z] ∧ z.length ≤ sizeLine ∧ Q (.int z.length) H)) lenD := fun φ Hf H xs d vs Q s r e k => by
  unfold lenD at e
  split at e
  · obtain ⟨v, hv, rr⟩ := r.one; subst hv; clear r; have r := rr; clear rr
    split at e
    · rename_i ys hy
      cases e
      obtain ⟨p, ws, e1, e2, e3⟩ := r.seq s hy
      exact .inl ⟨p, ws, by rw [e1], e2, by rw [← e3.length]; exact k _ Hf H (.refl s) (.int _)⟩
    · split at e
      · split at e
        · rename_i hz; cases e
          have := r.str; subst this
          exact .inr ⟨_, rfl, hz, k _ Hf H (.refl s) (.int _)⟩
        · cases e
      · cases e
  · cases e
theorem l_int {K} : OpL K (fun xs H Q => (∃ i, xs = [.int i] ∧ Q (.int i) H) ∨ ∃ k, xs = [.bl k] ∧ Q (.int (if k then 1 else 0)) H) intD := fun φ Hf H xs d vs Q s r e k => by
  unfold intD at e
  split at e
  · cases e
    obtain ⟨v, hv, rr⟩ := r.one; subst hv; clear r; have r := rr; clear rr
    have := r.int; subst this
    exact .inl ⟨_, rfl, k _ Hf H (.refl s) (.int _)⟩
  · cases e
    obtain ⟨v, hv, rr⟩ := r.one; subst hv; clear r; have r := rr; clear rr
    cases r.scal_v rfl
    exact .inr ⟨_, rfl, k _ Hf H (.refl s) (.int _)⟩
  · cases e
theorem l_tup {K} : OpL K (fun xs H Q => ∃ p ys, xs = [.ref p] ∧ ((SqL K H p ys ∧ ∀ l, H l = none → Q (.ref l) (upd H l (.tup ys))) ∨ (SqT K H p ys ∧ Q (.ref p) H))) tupOf := fun φ Hf H xs d vs Q s r e k => by
  unfold tupOf at e
  split at e
  · rename_i x
    obtain ⟨v, hv, rr⟩ := r.one; subst hv; clear r; have r := rr; clear rr
    split at e
    · rename_i ys hy
      cases e
      have fin : ∀ p ws, v = .ref p → SqL K H p ws → RpAll K φ Hf ys ws → ∃ p ys, [v] = [V.ref p] ∧ ((SqL K H p ys ∧ ∀ l, H l = none → Q (.ref l) (upd H l (.tup ys))) ∨ (SqT K H p ys ∧ Q (.ref p) H)) := fun p ws e1 e2 e3 => by
        subst e1
        refine ⟨p, ws, rfl, .inl ⟨e2, fun l hl => ?_⟩⟩
        have gn : Gr Hf H _ _ := .new (o := .tup ws) s hl
        exact k _ _ _ gn (.tup (.inl (.inl upd_same)) (e3.mono gn.f))
      cases x with
      | tup zs =>
        cases hy
        obtain ⟨a, ws, e1, e2, e3⟩ := r.tup
        subst e1
        exact ⟨a, ws, rfl, .inr ⟨SqT_same s e2, k _ Hf H (.refl s) (.tup e2 e3)⟩⟩
      | lst zs =>
        cases hy
        obtain ⟨a, ws, e1, e2, e3⟩ := r.lst s
        exact fin a ws e1 (.inl (.inl e2)) e3
      | klst zs =>
        cases hy
        rcases r with r | ⟨_, _, _, h, _⟩
        · cases r with | klst q r => exact fin _ _ rfl (s.seq q) r
        · cases h
      | _ => cases hy
    · cases e
  · cases e
theorem l_list {K} : OpLN K (fun xs H Q => ∃ p ys, xs = [.ref p] ∧ (SqL K H p ys ∨ SqT K H p ys) ∧ ∀ l, H l = none → Q (.ref l) (upd H l (.lst ys))) listOf := fun φ Hf H xs d vs Q s r e k => by
  unfold listOf at e
  split at e
  · obtain ⟨v, hv, rr⟩ := r.one; subst hv; clear r; have r := rr; clear rr
    split at e
    · rename_i ys hy
      cases e
      obtain ⟨p, ws, e1, e2, e3⟩ := r.seq s hy
      refine ⟨p, ws, by rw [e1], e2, fun l hl => ?_⟩
      exact k l _ _ _ rfl (.own s hl) hl upd_same e3
    · cases e
  · cases e
theorem l_ord {K} : OpL K (fun xs H Q => ∃ x, xs = [.str x] ∧ x.length = 1 ∧ Q (.int (x.cps.getD 0 0 : Nat)) H) ordD := fun φ Hf H xs d vs Q s r e k => by
  unfold ordD at e
  split at e
  · split at e
    · rename_i hz; cases e
      obtain ⟨v, hv, rr⟩ := r.one; subst hv; clear r; have r := rr; clear rr
      have := r.str; subst this
      exact ⟨_, rfl, hz, k _ Hf H (.refl s) (.int _)⟩
    · cases e
  · cases e
theorem allBl_v {K : PySem.W.Frag} {φ : Nat → Option Addr} {H : Hp} : ∀ {ds : List D} {vs : List V} {bs : List Bool}, RpAll K φ H ds vs → allBl ds = some bs → vs = bs.map V.bl
  | _, _, _, .nil, h => by cases h; rfl
  | d :: ds, _, bs, .cons r t, h => by
    cases d <;> first | (simp only [allBl] at h; done) | skip
    all_goals first | (simp [allBl] at h; done) | skip
    rename_i b
    simp only [allBl] at h
    split at h
    · rename_i bs' hb
      cases h
      cases r
      rw [allBl_v t hb]; rfl
    · cases h
theorem isLst_sq {K : PySem.W.Frag} {φ : Nat → Option Addr} {Hf H : Hp} {x : D} {v : V} {ys : List D} (s : Same Hf H) (r : Rpb K φ Hf H x v) (hl : isLst x = true) (hy : seqD x = some ys) : ∃ p ws, v = .ref p ∧ SqL K H p ws ∧ RpAll K φ Hf ys ws := by
  cases x <;> first | (cases hl) | skip
  · cases hy
    obtain ⟨p, vs, e1, e2, e3⟩ := r.lst s
    exact ⟨p, vs, e1, .inl (.inl e2), e3⟩
  · cases hy
    rcases r with r | ⟨_, _, _, h, _⟩
    · cases r with | klst q r => exact ⟨_, _, rfl, s.seq q, r⟩
    · cases h
theorem l_any {K} : OpL K (rAny K) anyD := fun φ Hf H xs d vs Q s r e k => by
  unfold anyD at e
  split at e
  · obtain ⟨v, hv, rr⟩ := r.one; subst hv; clear r; have r := rr; clear rr
    split at e
    · rename_i hl
      split at e
      · rename_i ys hy
        split at e
        · rename_i bs hb
          cases e
          obtain ⟨p, ws, e1, e2, e3⟩ := isLst_sq s r hl hy
          have e4 := allBl_v e3 hb
          subst e4 e1
          exact ⟨p, bs, rfl, e2, k _ Hf H (.refl s) (.bl _)⟩
        · cases e
      · cases e
    · cases e
  · cases e
theorem l_all {K} : OpL K (rAll K) allD := fun φ Hf H xs d vs Q s r e k => by
  unfold allD at e
  split at e
  · obtain ⟨v, hv, rr⟩ := r.one; subst hv; clear r; have r := rr; clear rr
    split at e
    · rename_i hl
      split at e
      · rename_i ys hy
        split at e
        · rename_i bs hb
          cases e
          obtain ⟨p, ws, e1, e2, e3⟩ := isLst_sq s r hl hy
          have e4 := allBl_v e3 hb
          subst e4 e1
          exact ⟨p, bs, rfl, e2, k _ Hf H (.refl s) (.bl _)⟩
        · cases e
      · cases e
    · cases e
  · cases e
end
end FL
namespace FL
open PySem L2

/-! ### built-in calls by values -/
section
variable {X : Cx} {O : List Nat} {e : Expr} {es : List Expr} {x : Str} {p pos : Pos} {F : Env → Option D} {Fs : Env → Option (List D)} {bid T : String} {r : List V → Hp → VK → Prop} {f : List D → Option D}
/-! isinstance(x, T) -/
def tyD : D → Option String | .non => some "NoneType" | .bl _ => some "bool" | .int _ => some "int" | .str _ => some "str" | .tup _ => some "tuple" | .lst _ => some "list" | .klst _ => some "list" | .obj _ => none | .ins _ _ _ => none | .dct _ _ => none
def isi (T : String) (t : String) : Bool := t == T || (t == "bool" && T == "int")
def isiD (T : String) (d : D) : Option D := match tyD d with | some t => some (.bl (isi T t)) | none => none
theorem isi_tab : (["tuple", "list", "bool", "int", "str"].all fun T => ["NoneType", "bool", "int", "str", "tuple", "list"].all fun t => kitB t T == some (isi T t)) = true := by decide +kernel
theorem kit_isi {K : PySem.W.Frag} {T t : String} {d : D} (hT : T ∈ ["tuple", "list", "bool", "int", "str"]) (h : tyD d = some t) : PySem.W.kitOne K (.type t) (.type T) = some (isi T t) := by
  have h2 : t ∈ ["NoneType", "bool", "int", "str", "tuple", "list"] := by
    cases d <;> first | (cases h; decide) | cases h
  exact kit_ty (by simpa using (List.all_eq_true.mp ((List.all_eq_true.mp isi_tab) T hT)) t h2)
theorem tyX_of {K : PySem.W.Frag} {φ : Nat → Option Addr} {H : Hp} {d : D} {v : V} {t : String} (r : Rp K φ H d v) (h : tyD d = some t) : TyX K H v (.type t) := by
  cases r <;> first | (cases h) | skip
  · exact .base .non
  · exact .base (.bl _)
  · exact .base (.int _)
  · exact .base (.str _)
  · rename_i q _
    rcases q with (q | ⟨o, q⟩) | ⟨o, its, n, q, hc, _⟩
    · exact .base (.tup q)
    · exact .fTuple q
    · exact .kTuple q hc
  · rename_i q _
    exact .base (.lst q)
  · rename_i q _
    rcases q with (q | ⟨o, q⟩) | ⟨o, its, n, q, hc, _⟩
    · exact .base (.lst q)
    · exact .base (.frz q)
    · exact .kList q hc
theorem fe_isi {y : Str} {py : Pos} (hT : T ∈ ["tuple", "list", "bool", "int", "str"]) (hg : Gl X x) (hm : X.mg x = none) (hv : bootBuiltins x = some (.builtin "isinstance")) (hg2 : Gl X y) (hm2 : X.mg y = none) (hv2 : bootBuiltins y = some (.type T)) (h : FB X O e F)
    (hn : x ≠ "__name__" := by decide +kernel) (hdb : (x == ("__debug__" : Str)) = false := by decide +kernel) (hn2 : y ≠ "__name__" := by decide +kernel) (hdb2 : (y == ("__debug__" : Str)) = false := by decide +kernel)
    (hs : starEach [e, .Name y py] X.env = (false, eval e X.env) :: starEach [.Name y py] X.env := by rfl) (hs2 : starEach [.Name y py] X.env = (false, eval (.Name y py) X.env) :: starEach [] X.env := by rfl)
    (hpl : (backTo pos (starEach [.Name y py] X.env)).any (·.1) = false := by rfl) : FE X O (.Call (.Name x p) [e, .Name y py] [] pos) (e1 (isiD T) F) := by
  intro φ Hf0 H0 ρ σ Hf H d Q S hF k
  obtain ⟨z, h1, h2⟩ := e1_some hF
  refine toE (pe_callB call_isi hg hm hv (pa_cons peW (pa_cons (pe_bltn hg2 hm2 hv2 (v := .ty T) rfl hn2 hdb2) pa_nil hs2) hs) hn hdb hs hpl) ?_
  refine h φ Hf0 H0 ρ σ Hf H z _ S h1 fun v Hf1 H1 g1 r1 => ?_
  unfold isiD at h2
  split at h2
  · rename_i t ht
    cases h2
    exact ⟨v, .ty T, .type t, .type T, isi T t, rfl, .ty T, tyX_of (r1.all g1.s) ht, kit_isi hT ht, k _ Hf1 H1 g1 (.bl _)⟩
  · cases h2
end
end FL
namespace FL
open PySem L2

/-! ### targets -/
def wG (X : Cx) (tg : Expr) : TG := fun v σ H Q => Lk (∀ pins s u, Inv X pins σ H s → RelV v u → wpAny (model X.prog X.w) X.A (assign tg X.env u) (fun _ s' => ∃ σ' H', Inv X pins σ' H' s' ∧ Q σ' H') X.xe s)
def wGs (X : Cx) (ts : List Expr) : TGs := fun vs σ H Q => Lk (∀ pins s us, Inv X pins σ H s → Vals vs us → wpAny (model X.prog X.w) X.A (assignInOrder ((assignEach ts X.env).map (·.2)) us) (fun _ s' => ∃ σ' H', Inv X pins σ' H' s' ∧ Q σ' H') X.xe s)
/-- what a target's store says: tgs, the slots that it stores -/
def FG (X : Cx) (O O' : List Nat) (tgs : List Nat) (tg : Expr) (g : D → Env → Option Env) : Prop :=
  ∀ (φ : Nat → Option Addr) (Hf0 H0 : Hp) (ρ : Env) (σ : St) (Hf H : Hp) (d : D) (v : V) (ρ' : Env) (Q : St → Hp → Prop), SR X.K φ Hf0 H0 O ρ σ Hf H → Rp X.K φ Hf d v → g d ρ = some ρ' →
    (∀ σ', SR X.K φ Hf0 H0 O' ρ' σ' Hf H → (∀ vs : List Nat, (∀ i ∈ tgs, i ∈ vs) → wipe σ' vs = wipe σ vs) → Q σ' H) → wG X tg v σ H Q
def FGs (X : Cx) (O O' : List Nat) (tgs : List Nat) (ts : List Expr) (g : List D → Env → Option Env) : Prop :=
  ∀ (φ : Nat → Option Addr) (Hf0 H0 : Hp) (ρ : Env) (σ : St) (Hf H : Hp) (ds : List D) (vs : List V) (ρ' : Env) (Q : St → Hp → Prop), SR X.K φ Hf0 H0 O ρ σ Hf H → RpAll X.K φ Hf ds vs → g ds ρ = some ρ' →
    (∀ σ', SR X.K φ Hf0 H0 O' ρ' σ' Hf H → (∀ vs : List Nat, (∀ i ∈ tgs, i ∈ vs) → wipe σ' vs = wipe σ vs) → Q σ' H) → wGs X ts vs σ H Q
def gSet (i : Nat) : D → Env → Option Env := fun d ρ => some (ρ.set i (some d))
def gNil : List D → Env → Option Env := fun ds ρ => match ds with | [] => some ρ | _ => none
def gCons (g : D → Env → Option Env) (gs : List D → Env → Option Env) : List D → Env → Option Env := fun ds ρ => match ds with
  | d :: ds => (match g d ρ with | some ρ' => gs ds ρ' | none => none) | [] => none
def gTup (g : List D → Env → Option Env) : D → Env → Option Env := fun d ρ => match d with | .tup ds => g ds ρ | _ => none
section
variable {X : Cx} {O O' O2 : List Nat} {tgs tgs2 : List Nat} {tg : Expr} {ts : List Expr} {pos : Pos} {g : D → Env → Option Env} {gs : List D → Env → Option Env}
theorem pgW : PG X tg (wG X tg) := ⟨fun pins s σ H v u Q I r h => h.h pins s u I r⟩
theorem pgsW : PGs X ts (wGs X ts) := ⟨fun pins s σ H vs us Q I r h => h.h pins s us I r⟩
theorem toG {t : TG} (h : PG X tg t) {v : V} {σ : St} {H : Hp} {Q : St → Hp → Prop} (q : t v σ H Q) : wG X tg v σ H Q := ⟨fun pins s u I r => h.run pins s σ H v u Q I r q⟩
theorem toGs {t : TGs} (h : PGs X ts t) {v : List V} {σ : St} {H : Hp} {Q : St → Hp → Prop} (q : t v σ H Q) : wGs X ts v σ H Q := ⟨fun pins s u I r => h.run pins s σ H v u Q I r q⟩
theorem wipe_set {σ : St} {i : Nat} {x : Option V} : ∀ {vs : List Nat}, i ∈ vs → wipe (σ.set i x) vs = wipe σ vs
  | [], h => by simp at h
  | v :: vs, h => by
    unfold wipe
    by_cases hi : i ∈ vs
    · rw [wipe_set hi]
    · have e : i = v := by
        rcases List.mem_cons.mp h with e | e
        · exact e
        · exact absurd e hi
      subst e
      have comm : ∀ ws : List Nat, i ∉ ws → wipe (σ.set i x) ws = (wipe σ ws).set i x := by
        intro ws
        induction ws with
        | nil => intro _; rfl
        | cons w ws ih =>
          intro hw
          simp only [List.mem_cons, not_or] at hw
          show (wipe (σ.set i x) ws).set w none = ((wipe σ ws).set w none).set i x
          rw [ih hw.2, List.set_comm _ _ hw.1]
      rw [comm vs hi, List.set_set]
theorem fg_name {i : Nat} {x : Str} (hN : X.N.Nodup) (hi : X.N[i]? = some x) (hx : Loc X.env.scope x) (hf : X.fn x = true ∨ X.env.scope.names.lookup x = some .local := by first | exact .inl rfl | exact .inr rfl | assumption) : FG X O (O.filter (· != i)) [i] (.Name x pos) (gSet i) := by
  intro φ Hf0 H0 ρ σ Hf H d v ρ' Q S r e k
  cases e
  refine toG (pg_name hN hi hx hf) ?_
  exact k _ (S.set i r) fun vs h => wipe_set (h i (by simp))
theorem fgs_nil : FGs X O O [] [] gNil := by
  intro φ Hf0 H0 ρ σ Hf H ds vs ρ' Q S r e k
  unfold gNil at e
  split at e
  · cases e
    cases r
    exact toGs pgs_nil ⟨rfl, k σ S fun _ _ => rfl⟩
  · cases e
theorem fgs_cons (h1 : FG X O O2 tgs tg g) (h2 : FGs X O2 O' tgs2 ts gs) (hs : (assignEach (tg :: ts) X.env).map (·.2) = assign tg X.env :: (assignEach ts X.env).map (·.2) := by rfl) : FGs X O O' (tgs ++ tgs2) (tg :: ts) (gCons g gs) := by
  intro φ Hf0 H0 ρ σ Hf H ds vs ρ' Q S r e k
  unfold gCons at e
  split at e
  · rename_i d ds
    split at e
    · rename_i ρ1 e1
      cases r with
      | cons r rr =>
        refine toGs (pgs_cons pgW pgsW hs) ⟨_, _, rfl, ?_⟩
        refine h1 φ Hf0 H0 ρ σ Hf H d _ ρ1 _ S r e1 fun σ1 S1 w1 => ?_
        refine h2 φ Hf0 H0 ρ1 σ1 Hf H ds _ ρ' _ S1 rr e fun σ2 S2 w2 => ?_
        exact k σ2 S2 fun us hu => (w2 us fun i hi => hu i (List.mem_append_right _ hi)).trans (w1 us fun i hi => hu i (List.mem_append_left _ hi))
    · cases e
  · cases e
theorem fg_tup {k : Nat} {n : Nat} (hc : X.calm = true) (h : FGs X O O' tgs ts gs) (hn : (assignEach ts X.env).length = n := by rfl) (hlen : ∀ ds ρ ρ', gs ds ρ = some ρ' → ds.length = n)
    (hst : (assignEach ts X.env).findIdx? (·.1) = none := by rfl) : FG X O O' tgs (.Tuple ts k pos) (gTup gs) := by
  intro φ Hf0 H0 ρ σ Hf H d v ρ' Q S r e kk
  unfold gTup at e
  split at e
  · cases r with
    | tup q r =>
      refine toG (pg_tup hc pgsW hn hst) ⟨_, _, rfl, SqT_same S.sub q, by rw [← r.length]; exact hlen _ _ _ e, ?_⟩
      exact h φ Hf0 H0 ρ σ Hf H _ _ ρ' Q S r e kk
  · cases e
theorem gNil_len : ∀ ds ρ ρ', gNil ds ρ = some ρ' → ds.length = 0 := fun ds ρ ρ' h => by
  unfold gNil at h; split at h
  · rfl
  · cases h
theorem gCons_len {n : Nat} (h : ∀ ds ρ ρ', gs ds ρ = some ρ' → ds.length = n) : ∀ ds ρ ρ', gCons g gs ds ρ = some ρ' → ds.length = n + 1 := fun ds ρ ρ' e => by
  unfold gCons at e; split at e
  · split at e
    · rw [List.length_cons, h _ _ _ e]
    · cases e
  · cases e
end

/-! ### what is walked -/
/-- the iterator J yields ds, whatever has been made besides -/
def ItD (K : PySem.W.Frag) (φ : Nat → Option Addr) (Hf : Hp) (ds : List D) (J : It) : Prop :=
  ∀ (i : Nat) (Hf1 H1 : Hp), Same Hf Hf1 → Same Hf1 H1 → (ds.length ≤ i → J.stop i H1) ∧
    ∀ d, ds[i]? = some d → J.go i H1 ∧ ∀ x H2, J.yld i H1 x H2 → ∃ Hf2, Gr Hf1 H1 Hf2 H2 ∧ Rp K φ Hf2 d x
/-- .. while what there was stands -/
def ItB (K : PySem.W.Frag) (φ : Nat → Option Addr) (Hf H : Hp) (ds : List D) (J : It) : Prop :=
  ∀ (i : Nat) (Hf1 H1 : Hp), Gr Hf H Hf1 H1 → (ds.length ≤ i → J.stop i H1) ∧
    ∀ d, ds[i]? = some d → J.go i H1 ∧ ∀ x H2, J.yld i H1 x H2 → ∃ Hf2, Gr Hf1 H1 Hf2 H2 ∧ Rp K φ Hf2 d x
theorem ItD.b {K : PySem.W.Frag} {φ : Nat → Option Addr} {Hf H : Hp} {ds : List D} {J : It} (h : ItD K φ Hf ds J) : ItB K φ Hf H ds J := fun i Hf1 H1 g => h i Hf1 H1 g.f g.s
def wI (X : Cx) (tg iter : Expr) : TI := fun σ H R => Lk (∀ pins s, Inv X pins σ H s → wpAny (model X.prog X.w) X.A (eval iter X.env) (fun v s1 => wpAny (model X.prog X.w) X.A (pyIter v) (PIE X pins σ tg R) X.xe s1) X.xe s)
theorem piW {X : Cx} {tg iter : Expr} : PI X tg iter (wI X tg iter) := ⟨fun pins s σ H R I h => h.h pins s I⟩
theorem toI {X : Cx} {tg iter : Expr} {t : TI} (h : PI X tg iter t) {σ : St} {H : Hp} {R : It → Hp → Prop} (q : t σ H R) : wI X tg iter σ H R := ⟨fun pins s I => h.run pins s σ H R I q⟩
def FI (X : Cx) (O : List Nat) (tg iter : Expr) (F : Env → Option (List D)) : Prop :=
  ∀ (φ : Nat → Option Addr) (Hf0 H0 : Hp) (ρ : Env) (σ : St) (Hf H : Hp) (ds : List D) (R : It → Hp → Prop), SR X.K φ Hf0 H0 O ρ σ Hf H → F ρ = some ds → (∀ J Hf' H', Gr Hf H Hf' H' → ItD X.K φ Hf' ds J → R J H') → wI X tg iter σ H R
def FIB (X : Cx) (O : List Nat) (tg iter : Expr) (F : Env → Option (List D)) : Prop :=
  ∀ (φ : Nat → Option Addr) (Hf0 H0 : Hp) (ρ : Env) (σ : St) (Hf H : Hp) (ds : List D) (R : It → Hp → Prop), SR X.K φ Hf0 H0 O ρ σ Hf H → F ρ = some ds → (∀ J Hf' H', Gr Hf H Hf' H' → ItB X.K φ Hf' H' ds J → R J H') → wI X tg iter σ H R
def iSeq (p : D → Bool) (F : Env → Option D) : Env → Option (List D) := fun ρ => match F ρ with | some d => if p d then seqD d else none | none => none
def isTup : D → Bool | .tup _ => true | _ => false
def iStr (F : Env → Option D) : Env → Option (List D) := fun ρ => match F ρ with | some (.str z) => some (z.cps.toList.map fun c => .str ⟨#[c]⟩) | _ => none
def rngD (lo : Int) (n : Nat) : List D := (List.range n).map fun (k : Nat) => D.int (lo + (k : Int))
def iRng1 (F : Env → Option (List D)) : Env → Option (List D) := fun ρ => match F ρ with | some [.int j] => if -(2 ^ 62) ≤ j ∧ j < 2 ^ 62 then some (rngD 0 j.toNat) else none | _ => none
def iRng2 (F : Env → Option (List D)) : Env → Option (List D) := fun ρ => match F ρ with | some [.int i, .int j] => if -(2 ^ 62) ≤ i ∧ i < 2 ^ 62 ∧ -(2 ^ 62) ≤ j ∧ j < 2 ^ 62 then some (rngD i (j - i).toNat) else none | _ => none
def enumL : Nat → List D → List D
  | _, [] => [] | k, d :: ds => .tup [.int (k : Nat), d] :: enumL (k + 1) ds
def iEnum (F : Env → Option D) : Env → Option (List D) := fun ρ => match F ρ with | some d => if isLst d then (match seqD d with | some ds => some (enumL 0 ds) | none => none) else none | none => none
section
variable {X : Cx} {O : List Nat} {tg e a b : Expr} {p pos : Pos} {F G : Env → Option D} {Fs : Env → Option (List D)}
theorem itD_list {K : PySem.W.Frag} {φ : Nat → Option Addr} {Hf : Hp} {a : Addr} {ds : List D} {vs : List V} (q : SqL K Hf a vs) (r : RpAll K φ Hf ds vs) : ItD K φ Hf ds (Itl K a) := fun i Hf1 H1 s1 s2 => by
  have q1 := (s1.trans s2).seq q
  refine ⟨fun h => ⟨vs, q1, by rw [← r.length]; exact h⟩, fun d hd => ?_⟩
  obtain ⟨v, e1, r1⟩ := r.get hd
  refine ⟨⟨vs, v, q1, e1⟩, fun x H2 ⟨e2, e3⟩ => ?_⟩
  subst e2
  have := e3 vs q1
  rw [e1] at this
  cases this
  exact ⟨Hf1, .refl s2, r1.mono s1⟩
theorem itD_tup {K : PySem.W.Frag} {φ : Nat → Option Addr} {Hf : Hp} {a : Addr} {ds : List D} {vs : List V} (q : SqT K Hf a vs) (r : RpAll K φ Hf ds vs) : ItD K φ Hf ds (Itt K a) := fun i Hf1 H1 s1 s2 => by
  have q1 := SqT_same (s1.trans s2) q
  refine ⟨fun h => ⟨vs, q1, by rw [← r.length]; exact h⟩, fun d hd => ?_⟩
  obtain ⟨v, e1, r1⟩ := r.get hd
  refine ⟨⟨vs, v, q1, e1⟩, fun x H2 ⟨e2, e3⟩ => ?_⟩
  subst e2
  have := e3 vs q1
  rw [e1] at this
  cases this
  exact ⟨Hf1, .refl s2, r1.mono s1⟩
theorem itB_list {K : PySem.W.Frag} {φ : Nat → Option Addr} {Hf H : Hp} {a : Addr} {ds : List D} {vs : List V} (q : SqL K H a vs) (r : RpAll K φ Hf ds vs) : ItB K φ Hf H ds (Itl K a) := fun i Hf1 H1 g => by
  have q1 := g.h.seq q
  refine ⟨fun h => ⟨vs, q1, by rw [← r.length]; exact h⟩, fun d hd => ?_⟩
  obtain ⟨v, e1, r1⟩ := r.get hd
  refine ⟨⟨vs, v, q1, e1⟩, fun x H2 ⟨e2, e3⟩ => ?_⟩
  subst e2
  have := e3 vs q1
  rw [e1] at this
  cases this
  exact ⟨Hf1, .refl g.s, r1.mono g.f⟩
theorem iSeq_some {pp : D → Bool} {ρ : Env} {ds : List D} (h : iSeq pp F ρ = some ds) : ∃ d, F ρ = some d ∧ pp d = true ∧ seqD d = some ds := by
  unfold iSeq at h
  split at h
  · rename_i d hd
    split at h
    · rename_i hp; exact ⟨d, hd, hp, h⟩
    · cases h
  · cases h
theorem Rp.lst_f {K : PySem.W.Frag} {φ : Nat → Option Addr} {Hf : Hp} {d : D} {v : V} {ds : List D} (r : Rp K φ Hf d v) (h1 : isLst d = true) (h2 : seqD d = some ds) : ∃ a vs, v = .ref a ∧ SqL K Hf a vs ∧ RpAll K φ Hf ds vs := by
  cases r <;> first | (cases h1) | skip
  · rename_i q r; cases h2; exact ⟨_, _, rfl, .inl (.inl q), r⟩
  · rename_i q r; cases h2; exact ⟨_, _, rfl, q, r⟩
theorem fi_list (h : FE X O e F) : FI X O tg e (iSeq isLst F) := by
  intro φ Hf0 H0 ρ σ Hf H ds R S hF k
  obtain ⟨d, h1, h2, h3⟩ := iSeq_some hF
  refine toI (pi_list peW) ?_
  refine h φ Hf0 H0 ρ σ Hf H d _ S h1 fun v Hf1 H1 g1 r1 => ?_
  obtain ⟨a, vs, e1, q, r⟩ := r1.lst_f h2 h3
  exact ⟨a, e1, ⟨vs, g1.s.seq q⟩, k _ Hf1 H1 g1 (itD_list q r)⟩
theorem fib_of (h : FI X O tg e Fs) : FIB X O tg e Fs := fun φ Hf0 H0 ρ σ Hf H ds R S hF k => h φ Hf0 H0 ρ σ Hf H ds R S hF fun J Hf1 H1 g i => k J Hf1 H1 g i.b
theorem fib_list (h : FB X O e F) : FIB X O tg e (iSeq isLst F) := by
  intro φ Hf0 H0 ρ σ Hf H ds R S hF k
  obtain ⟨d, h1, h2, h3⟩ := iSeq_some hF
  refine toI (pi_list peW) ?_
  refine h φ Hf0 H0 ρ σ Hf H d _ S h1 fun v Hf1 H1 g1 r1 => ?_
  obtain ⟨p, ws, e1, e2, e3⟩ := isLst_sq g1.s r1 h2 h3
  exact ⟨p, e1, ⟨ws, e2⟩, k _ Hf1 H1 g1 (itB_list e2 e3)⟩
theorem fi_tup (h : FE X O e F) : FI X O tg e (iSeq isTup F) := by
  intro φ Hf0 H0 ρ σ Hf H ds R S hF k
  obtain ⟨d, h1, h2, h3⟩ := iSeq_some hF
  refine toI (pi_tup peW) ?_
  refine h φ Hf0 H0 ρ σ Hf H d _ S h1 fun v Hf1 H1 g1 r1 => ?_
  cases r1 <;> first | (cases h2) | skip
  rename_i q r
  cases h3
  exact ⟨_, rfl, ⟨_, SqT_same g1.s q⟩, k _ Hf1 H1 g1 (itD_tup q r)⟩
theorem fi_str (h : FE X O e F) : FI X O tg e (iStr F) := by
  intro φ Hf0 H0 ρ σ Hf H ds R S hF k
  unfold iStr at hF
  split at hF
  · rename_i z hz
    cases hF
    refine toI (pi_str peW) ?_
    refine h φ Hf0 H0 ρ σ Hf H _ _ S hz fun v Hf1 H1 g1 r1 => ?_
    cases r1
    refine ⟨z, rfl, k _ Hf1 H1 g1 fun i Hf2 H2 s1 s2 => ⟨fun hl => ?_, fun d hd => ?_⟩⟩
    · rw [List.length_map, Array.length_toList] at hl; exact hl
    · rw [List.getElem?_map] at hd
      cases hq : z.cps.toList[i]? with
      | none => rw [hq] at hd; cases hd
      | some c =>
        rw [hq] at hd; cases hd
        have hc : z.cps[i]? = some c := by rw [← Array.getElem?_toList]; exact hq
        refine ⟨(Array.getElem?_eq_some_iff.mp hc).1, fun x H3 ⟨e1, c', e2, e3⟩ => ?_⟩
        subst e1 e3
        rw [hc] at e2; cases e2
        exact ⟨Hf2, .refl s2, .str _⟩
  · cases hF
theorem itD_rng {K : PySem.W.Frag} {φ : Nat → Option Addr} {Hf : Hp} {lo : Int} {n : Nat} : ItD K φ Hf (rngD lo n) (Itr lo n) := fun i Hf1 H1 s1 s2 => by
  unfold rngD
  refine ⟨fun h => by show n ≤ i; simpa using h, fun d hd => ?_⟩
  rw [List.getElem?_map] at hd
  cases hq : (List.range n)[i]? with
  | none => rw [hq] at hd; cases hd
  | some c =>
    rw [hq] at hd; cases hd
    obtain ⟨h1, h2⟩ := List.getElem?_eq_some_iff.mp hq
    have h3 : i < n := by simpa using h1
    have h4 : c = i := by simpa using h2.symm
    subst h4
    exact ⟨h3, fun x H2 ⟨e1, e2⟩ => by subst e1 e2; exact ⟨Hf1, .refl s2, .int _⟩⟩
theorem fi_rng1 (hg : Gl X "range") (hm : X.mg "range" = none) (h : FA X O [a] Fs) (hs : starEach [a] X.env = [(false, eval a X.env)] := by rfl) : FI X O tg (.Call (.Name "range" p) [a] [] pos) (iRng1 Fs) := by
  intro φ Hf0 H0 ρ σ Hf H ds R S hF k
  unfold iRng1 at hF
  split at hF
  · rename_i j hj
    split at hF
    · rename_i hb
      cases hF
      refine toI (pi_range1 hg hm paW hs) ?_
      refine h φ Hf0 H0 ρ σ Hf H _ _ S hj fun vs Hf1 H1 g1 r1 => ?_
      cases r1 with
      | cons r t =>
        cases t
        cases r
        exact ⟨j, rfl, hb.1, hb.2, k _ Hf1 H1 g1 itD_rng⟩
    · cases hF
  · cases hF
theorem fi_rng2 (hg : Gl X "range") (hm : X.mg "range" = none) (h : FA X O [a, b] Fs) (hs : starEach [a, b] X.env = [(false, eval a X.env), (false, eval b X.env)] := by rfl) (hs2 : starEach [b] X.env = [(false, eval b X.env)] := by rfl) : FI X O tg (.Call (.Name "range" p) [a, b] [] pos) (iRng2 Fs) := by
  intro φ Hf0 H0 ρ σ Hf H ds R S hF k
  unfold iRng2 at hF
  split at hF
  · rename_i i j hj
    split at hF
    · rename_i hb
      cases hF
      refine toI (pi_range2 hg hm paW hs hs2) ?_
      refine h φ Hf0 H0 ρ σ Hf H _ _ S hj fun vs Hf1 H1 g1 r1 => ?_
      cases r1 with
      | cons r t =>
        cases t with
        | cons r2 t =>
          cases t
          cases r
          cases r2
          exact ⟨i, j, rfl, hb, k _ Hf1 H1 g1 itD_rng⟩
    · cases hF
  · cases hF
theorem enumL_get : ∀ (ds : List D) (k i : Nat), (enumL k ds)[i]? = (ds[i]?).map fun d => D.tup [.int ((k + i : Nat) : Int), d]
  | [], k, i => by simp [enumL]
  | d :: ds, k, 0 => by simp [enumL]
  | d :: ds, k, i + 1 => by
    simp only [enumL, List.getElem?_cons_succ]
    rw [enumL_get ds (k + 1) i, show k + 1 + i = k + (i + 1) by omega]
theorem enumL_len : ∀ (ds : List D) (k : Nat), (enumL k ds).length = ds.length
  | [], _ => rfl
  | d :: ds, k => by simp [enumL, enumL_len ds]
theorem fi_enum {elts : List Expr} {kk : Nat} {tpos : Pos} (hg : Gl X "enumerate") (hm : X.mg "enumerate" = none) (h : FE X O e F) (hs : starEach [e] X.env = [(false, eval e X.env)] := by rfl) (hs' : starEach [e] X.env = (false, eval e X.env) :: starEach [] X.env := by rfl) :
    FI X O (.Tuple elts kk tpos) (.Call (.Name "enumerate" p) [e] [] pos) (iEnum F) := by
  intro φ Hf0 H0 ρ σ Hf H ds R S hF k
  unfold iEnum at hF
  split at hF
  · rename_i d hd
    split at hF
    · rename_i hl
      split at hF
      · rename_i ys hy
        cases hF
        refine toI (pi_enum hg hm (pa_cons peW pa_nil hs') hs) ?_
        refine h φ Hf0 H0 ρ σ Hf H d _ S hd fun v Hf1 H1 g1 r1 => ?_
        obtain ⟨a, vs, e1, q, r⟩ := r1.lst_f hl hy
        refine ⟨a, vs, by rw [e1], g1.s.seq q, k _ Hf1 H1 g1 fun i Hf2 H2 s1 s2 => ?_⟩
        have q1 := (s1.trans s2).seq q
        refine ⟨fun hl => ⟨vs, q1, by rw [← r.length, ← enumL_len ys 0]; exact hl⟩, fun d' hd' => ?_⟩
        rw [enumL_get] at hd'
        cases hq : ys[i]? with
        | none => rw [hq] at hd'; cases hd'
        | some y =>
          rw [hq] at hd'; cases hd'
          obtain ⟨w, e4, r4⟩ := r.get hq
          refine ⟨⟨vs, w, q1, e4⟩, fun x H3 ⟨T, z, e5, e6, e7, e8⟩ => ?_⟩
          have e9 := e8 vs q1
          rw [e4] at e9; cases e9
          subst e5 e7
          have g : Gr Hf2 H2 _ _ := .new (o := .tup [.int (i : Nat), w]) s2 e6
          refine ⟨_, g, .tup (.inl (.inl upd_same)) ?_⟩
          rw [Nat.zero_add]
          exact .cons (.int _) (.cons (r4.mono (s1.trans g.f)) .nil)
      · cases hF
    · cases hF
  · cases hF
end

/-! ### list comprehensions -/
def wipeE (ρ : Env) : List Nat → Env
  | [] => ρ
  | v :: vs => (wipeE ρ vs).set v none
def compL (g : D → Env → Option Env) (T : Env → Option Bool) (E : Env → Option D) (ρ : Env) : List D → Option (List D)
  | [] => some []
  | d :: ds => match g d ρ with
    | none => none
    | some ρ2 => match T ρ2 with
      | none => none
      | some false => compL g T E ρ ds
      | some true => match E ρ2 with
        | none => none
        | some y => match compL g T E ρ ds with | none => none | some ys => some (y :: ys)
def eComp (vs : List Nat) (Fi : Env → Option (List D)) (g : D → Env → Option Env) (T : Env → Option Bool) (E : Env → Option D) : Env → Option D := fun ρ =>
  match Fi ρ with | some ds => if ds.length ≤ sizeLine then (match compL g T E (wipeE ρ vs) ds with | some ys => some (.lst ys) | none => none) else none | none => none
def tYesE : Env → Option Bool := fun _ => some true
theorem wipeE_len (ρ : Env) : ∀ vs : List Nat, (wipeE ρ vs).length = ρ.length
  | [] => rfl
  | v :: vs => by unfold wipeE; rw [List.length_set, wipeE_len ρ vs]
theorem wipeE_some {ρ : Env} {i : Nat} {x : D} : ∀ {vs : List Nat}, (wipeE ρ vs)[i]? = some (some x) → ρ[i]? = some (some x) ∧ i ∉ vs
  | [], h => ⟨h, by simp⟩
  | v :: vs, h => by
    unfold wipeE at h
    by_cases hi : v = i
    · subst hi
      by_cases hv : v < (wipeE ρ vs).length
      · rw [List.getElem?_set_self hv] at h; cases h
      · rw [List.getElem?_eq_none (by simpa using hv)] at h; cases h
    · rw [List.getElem?_set_ne hi] at h
      obtain ⟨h1, h2⟩ := wipeE_some h
      exact ⟨h1, by simp only [List.mem_cons, not_or]; exact ⟨fun e => hi e.symm, h2⟩⟩
theorem SR.wipe {K : PySem.W.Frag} {φ : Nat → Option Addr} {Hf0 H0 Hf H : Hp} {O : List Nat} {ρ : Env} {σ : St} (S : SR K φ Hf0 H0 O ρ σ Hf H) (vs : List Nat) : SR K φ Hf0 H0 O (wipeE ρ vs) (L2.wipe σ vs) Hf H := by
  refine ⟨by rw [wipeE_len, wipe_length]; exact S.len, S.sub, S.gf, S.gh, S.gn, fun i d e n => ?_, fun i d e m => ?_, fun i j d e a h1 h2 m1 m2 hne q1 => ?_⟩
  · obtain ⟨e1, hn⟩ := wipeE_some e
    obtain ⟨v, e2, r⟩ := S.val i d e1 n
    exact ⟨v, by rw [wipe_out hn]; exact e2, r⟩
  · obtain ⟨e1, hn⟩ := wipeE_some e
    obtain ⟨a, xs, us, q1, q2, q3⟩ := S.own i d e1 m
    exact ⟨a, xs, us, q1, by rw [wipe_out hn]; exact q2, q3⟩
  · obtain ⟨e1, hn1⟩ := wipeE_some h1
    obtain ⟨e2, hn2⟩ := wipeE_some h2
    rw [wipe_out hn1] at q1
    rw [wipe_out hn2]
    exact S.ne i j d e a e1 e2 m1 m2 hne q1
theorem wipe_wipe {σ : St} {vs : List Nat} : L2.wipe (L2.wipe σ vs) vs = L2.wipe σ vs := by
  refine List.ext_getElem? fun i => ?_
  by_cases h : i ∈ vs
  · have z : ∀ (τ : St), (L2.wipe τ vs)[i]? = if i < τ.length then some none else none := by
      intro τ
      clear σ
      induction vs with
      | nil => simp at h
      | cons v vs ih =>
        show ((L2.wipe τ vs).set v none)[i]? = _
        by_cases hv : v = i
        · subst hv
          by_cases hl : v < τ.length
          · rw [List.getElem?_set_self (by rw [wipe_length]; exact hl), if_pos hl]
          · rw [List.getElem?_eq_none (by rw [List.length_set, wipe_length]; omega), if_neg hl]
        · rw [List.getElem?_set_ne hv]
          rcases List.mem_cons.mp h with e | e
          · exact absurd e.symm hv
          · exact ih e
    rw [z, z, wipe_length]
  · rw [wipe_out h]
section
variable {X : Cx} {O O2 : List Nat} {tg iter elt : Expr} {scope : Scope} {own : List (Str × Nat)} {pos : Pos}
def uE (X : Cx) (scope : Scope) (e : Expr) : TE := fun σ H Q => ∀ (s : Shared) (H0 : Hp) (C : Addr) (cl : List (Str × Addr)) (fp : List Addr), wE (X.blk s H0 scope (compEnvC scope cl C X.env) fp) e σ H Q
def uT (X : Cx) (scope : Scope) (e : Expr) : TT := fun σ H Q => ∀ (s : Shared) (H0 : Hp) (C : Addr) (cl : List (Str × Addr)) (fp : List Addr), wT (X.blk s H0 scope (compEnvC scope cl C X.env) fp) e σ H Q
def uG (X : Cx) (scope : Scope) (e : Expr) : TG := fun v σ H Q => ∀ (s : Shared) (H0 : Hp) (C : Addr) (cl : List (Str × Addr)) (fp : List Addr), wG (X.blk s H0 scope (compEnvC scope cl C X.env) fp) e v σ H Q
/-- what the block of a comprehension does with one item -/
theorem lc_go {wi : TI} {tt : TT} {Fi : Env → Option (List D)} {g : D → Env → Option Env} {T : Env → Option Bool} {E : Env → Option D} {tgs vs : List Nat}
    (hw : ∀ (σ : St) (H : Hp) (R : It → Hp → Prop), wI X tg iter σ H R → wi σ H R)
    (hi : FIB X O tg iter Fi) (hg : ∀ s H C cl fp, FG (X.blk s H scope (compEnvC scope cl C X.env) fp) O O2 tgs tg g) (htg : ∀ i ∈ tgs, i ∈ vs)
    (ht : ∀ (φ : Nat → Option Addr) (Hf0 H0 : Hp) (ρ : Env) (σ : St) (Hf H : Hp) (b : Bool) (Q : Bool → Hp → Prop), SR X.K φ Hf0 H0 O2 ρ σ Hf H → T ρ = some b → (∀ Hf' H', Gr Hf H Hf' H' → Q b H') → tt σ H Q)
    (he : ∀ s H C cl fp, FE (X.blk s H scope (compEnvC scope cl C X.env) fp) O2 elt E)
    {φ : Nat → Option Addr} {Hf0 H0 : Hp} {ρ : Env} {σ : St} {Hf H : Hp} {d : D} {Q : VK} (S : SR X.K φ Hf0 H0 O ρ σ Hf H) (hF : eComp vs Fi g T E ρ = some d)
    (k : ∀ a xs us Hf' H', d = .lst xs → Gr Hf H Hf' H' → H a = none → Hf' a = none → H' a = some (.lst us) → RpAll X.K φ Hf' xs us → Q (.ref a) H') : tLc wi (uG X scope tg) tt (uE X scope elt) vs σ H Q := by
  unfold eComp at hF
  split at hF
  · rename_i ds hds
    split at hF
    · rename_i hlen
      split at hF
      · rename_i ys hys
        cases hF
        refine hw σ H _ (hi φ Hf0 H0 ρ σ Hf H ds _ S hds fun J Hf1 H1 g1 itb => ?_)
        intro Dn hDn
        refine ⟨fun i m H2 => m = ds.length - i ∧ i ≤ ds.length ∧ ∃ Hf2 acc us rest, Gr Hf1 H1 Hf2 H2 ∧ Hf2 Dn = none ∧ H2 Dn = some (.lst us) ∧ RpAll X.K φ Hf2 acc us ∧ acc.length ≤ i ∧ compL g T E (wipeE ρ vs) (ds.drop i) = some rest ∧ acc ++ rest = ys,
          ⟨ds.length, by simp, Nat.zero_le _, Hf1, [], [], ys, .own g1.s hDn, g1.s.free hDn, upd_same, .nil, Nat.le_refl _, by simpa using hys, rfl⟩, ?_⟩
        rintro i m H2 ⟨rfl, hil, Hf2, acc, us, rest, g2, hf2, hh2, r2, hal, hrest, rfl⟩
        by_cases hlt : i < ds.length
        · right
          have hget : ds[i]? = some ds[i] := List.getElem?_eq_getElem hlt
          obtain ⟨hgo, hyld⟩ := (itb i Hf2 H2 g2).2 _ hget
          refine ⟨hgo, fun H' => ∃ Hf3 acc' us' rest', Gr Hf1 H1 Hf3 H' ∧ Hf3 Dn = none ∧ H' Dn = some (.lst us') ∧ RpAll X.K φ Hf3 acc' us' ∧ acc'.length ≤ i + 1 ∧ compL g T E (wipeE ρ vs) (ds.drop (i + 1)) = some rest' ∧ acc' ++ rest' = acc ++ rest,
            fun H' ⟨Hf3, acc', us', rest', a1, a2, a3, a4, a5, a6, a7⟩ => ⟨ds.length - (i + 1), by omega, rfl, hlt, Hf3, acc', us', rest', a1, a2, a3, a4, a5, a6, a7⟩, fun x H3 hy => ?_⟩
          obtain ⟨Hf3, g3, r3⟩ := hyld x H3 hy
          have g13 := g2.trans g3
          have S3 := ((S.gr g1).gr g13).wipe vs
          rw [List.drop_eq_getElem_cons hlt] at hrest
          unfold compL at hrest
          split at hrest
          · cases hrest
          · rename_i ρ2 hρ2
            intro s0 h0 C0 cl0 fp0
            refine hg s0 h0 C0 cl0 fp0 φ Hf0 H0 _ _ Hf3 H3 _ x ρ2 _ S3 r3 hρ2 fun σ2 S4 w4 => ⟨(w4 vs htg).trans wipe_wipe, ?_⟩
            split at hrest
            · cases hrest
            · rename_i hT
              refine ht φ Hf0 H0 ρ2 σ2 Hf3 H3 false _ S4 hT fun Hf4 H4 g4 => ?_
              refine iteF ⟨Hf4, acc, us, rest, g13.trans g4, ?_, ?_, (r2.mono g3.f).mono g4.f, by omega, hrest, rfl⟩
              · exact (g3.trans g4).n _ _ hh2 hf2
              · exact (g3.trans g4).h _ _ hh2
            · rename_i hT
              split at hrest
              · cases hrest
              · rename_i y hy2
                split at hrest
                · cases hrest
                · rename_i ys2 hys2
                  cases hrest
                  refine ht φ Hf0 H0 ρ2 σ2 Hf3 H3 true _ S4 hT fun Hf4 H4 g4 => iteT ?_
                  intro s1 h1 C1 cl1 fp1
                  refine he s1 h1 C1 cl1 fp1 φ Hf0 H0 ρ2 σ2 Hf4 H4 y _ (S4.gr g4) hy2 fun v Hf5 H5 g5 r5 => ?_
                  have g35 := g3.trans (g4.trans g5)
                  have hh5 := g35.h _ _ hh2
                  have hf5 := g35.n _ _ hh2 hf2
                  refine ⟨us, hh5, by rw [← r2.length]; omega, Hf5, acc ++ [y], us ++ [v], ys2, ?_, hf5, upd_same, ((r2.mono g35.f).append (.one r5)), by rw [List.length_append, List.length_singleton]; omega, hys2, by simp⟩
                  have gg := g2.trans g35
                  refine ⟨gg.f, fun b o e => ?_, fun b o e => ?_, gg.n⟩
                  · rw [upd_ne (ne_of_none e hDn)]; exact gg.h _ _ e
                  · rw [upd_ne (ne_of_none e hf5)]; exact gg.s _ _ e
        · left
          have hie : i = ds.length := by omega
          refine ⟨(itb i Hf2 H2 g2).1 (by omega), ?_⟩
          subst hie
          rw [List.drop_length] at hrest
          cases hrest
          rw [List.append_nil] at *
          exact k Dn _ us Hf2 H2 rfl (g1.trans g2) (g1.h.free hDn) hf2 hh2 r2
      · cases hF
    · cases hF
  · cases hF
theorem fn_lc {Fi : Env → Option (List D)} {g : D → Env → Option Env} {E : Env → Option D} {tgs : List Nat} (hc : X.calm = true) (hN : X.N.Nodup) (ok : BlkOk X.N X.env.scope scope own)
    (hi : FIB X O tg iter Fi) (hg : ∀ s H C cl fp, FG (X.blk s H scope (compEnvC scope cl C X.env) fp) O O2 tgs tg g) (he : ∀ s H C cl fp, FE (X.blk s H scope (compEnvC scope cl C X.env) fp) O2 elt E)
    (htg : (tgs.all fun i => (own.map (·.2)).contains i) = true) (hs : ∀ x, foldedSetIterable iter X.env x = pure x := by intro _; rfl) : FN X O (.ListComp elt [⟨tg, iter, [], 0⟩] scope pos) (eComp (own.map (·.2)) Fi g tYesE E) := by
  intro φ Hf0 H0 ρ σ Hf H d Q S hF k
  refine toE (pe_lc (wi := wI X tg iter) (g := uG X scope tg) (tt := tYes) (te := uE X scope elt) hc hN piW ok (fun s H C cl fp => ⟨fun pins s' σ H' v u Q I r h => (h s H C cl fp).h pins s' u I r⟩) (fun _ _ _ _ _ => pts_nil) (fun s H C cl fp => ⟨fun pins s' σ H' Q I h => (h s H C cl fp).h pins s' I⟩) hs) ?_
  exact lc_go (fun _ _ _ h => h) hi hg (fun i hi => by simpa using (List.all_eq_true.mp htg) i hi) (fun φ Hf0 H0 ρ σ Hf H b Q S h k => by cases h; exact k Hf H (.refl S.sub)) he S hF k
theorem fn_lcIf {c : Expr} {T : Env → Option Bool} {Fi : Env → Option (List D)} {g : D → Env → Option Env} {E : Env → Option D} {tgs : List Nat} (hc : X.calm = true) (hN : X.N.Nodup) (ok : BlkOk X.N X.env.scope scope own)
    (hi : FIB X O tg iter Fi) (hg : ∀ s H C cl fp, FG (X.blk s H scope (compEnvC scope cl C X.env) fp) O O2 tgs tg g) (ht : ∀ s H C cl fp, FT (X.blk s H scope (compEnvC scope cl C X.env) fp) O2 c T) (he : ∀ s H C cl fp, FE (X.blk s H scope (compEnvC scope cl C X.env) fp) O2 elt E)
    (htg : (tgs.all fun i => (own.map (·.2)).contains i) = true) (hs : ∀ x, foldedSetIterable iter X.env x = pure x := by intro _; rfl) : FN X O (.ListComp elt [⟨tg, iter, [c], 0⟩] scope pos) (eComp (own.map (·.2)) Fi g T E) := by
  intro φ Hf0 H0 ρ σ Hf H d Q S hF k
  refine toE (pe_lc (wi := wI X tg iter) (g := uG X scope tg) (tt := uT X scope c) (te := uE X scope elt) hc hN piW ok (fun s H C cl fp => ⟨fun pins s' σ H' v u Q I r h => (h s H C cl fp).h pins s' u I r⟩) (fun s H C cl fp => pts_one ⟨fun pins s' σ H' Q I h => (h s H C cl fp).h pins s' I⟩) (fun s H C cl fp => ⟨fun pins s' σ H' Q I h => (h s H C cl fp).h pins s' I⟩) hs) ?_
  exact lc_go (fun _ _ _ h => h) hi hg (fun i hi => by simpa using (List.all_eq_true.mp htg) i hi) (fun φ Hf0 H0 ρ σ Hf H b Q S h k s0 h0 C0 cl0 fp0 => ht s0 h0 C0 cl0 fp0 φ Hf0 H0 ρ σ Hf H b Q S h k) he S hF k
end
end FL
namespace FL
open PySem L2

/-! ### statements -/
inductive Out where
  | nx (ρ : Env) | rt (d : D) | bk (ρ : Env) | ct (ρ : Env)
/-- what is wanted of what a def returns: fr, a new list -/
def RtK (K : PySem.W.Frag) (φ : Nat → Option Addr) (Hf0 H0 : Hp) (fr : Bool) (d : D) (rt : VK) : Prop := match fr with
  | false => ∀ v Hf' H', Gr Hf0 H0 Hf' H' → Rp K φ Hf' d v → rt v H'
  | true => ∀ a xs vs Hf' H', d = .lst xs → Gr Hf0 H0 Hf' H' → H0 a = none → Hf' a = none → H' a = some (.lst vs) → RpAll K φ Hf' xs vs → rt (.ref a) H'
def Post (K : PySem.W.Frag) (φ : Nat → Option Addr) (Hf0 H0 : Hp) (fr : Bool) (L O : List Nat) (Hf : Hp) (Dn : Ends) : Out → Prop
  | .nx ρ => ∀ σ' Hf' H', Same Hf Hf' → SR K φ Hf0 H0 O ρ σ' Hf' H' → Dn.nx σ' H'
  | .rt d => RtK K φ Hf0 H0 fr d Dn.rt
  | .bk ρ => ∀ σ' Hf' H', Same Hf Hf' → SR K φ Hf0 H0 L ρ σ' Hf' H' → Dn.bk σ' H'
  | .ct ρ => ∀ σ' Hf' H', Same Hf Hf' → SR K φ Hf0 H0 L ρ σ' Hf' H' → Dn.ct σ' H'
theorem Post.mono {K : PySem.W.Frag} {φ : Nat → Option Addr} {Hf0 H0 : Hp} {fr : Bool} {L O : List Nat} {Hf Hf1 : Hp} {Dn : Ends} (s : Same Hf Hf1) : ∀ {out : Out}, Post K φ Hf0 H0 fr L O Hf Dn out → Post K φ Hf0 H0 fr L O Hf1 Dn out
  | .nx _, h => fun σ' Hf' H' s' => h σ' Hf' H' (s.trans s')
  | .rt _, h => h
  | .bk _, h => fun σ' Hf' H' s' => h σ' Hf' H' (s.trans s')
  | .ct _, h => fun σ' Hf' H' s' => h σ' Hf' H' (s.trans s')
def FS (X : Cx) (fr : Bool) (L O O' : List Nat) (st : Stmt) (G : Env → Option Out) : Prop :=
  ∀ (φ : Nat → Option Addr) (Hf0 H0 : Hp) (ρ : Env) (σ : St) (Hf H : Hp) (out : Out) (Dn : Ends), SR X.K φ Hf0 H0 O ρ σ Hf H → G ρ = some out → Post X.K φ Hf0 H0 fr L O' Hf Dn out → wS X st Dn σ H
def FSs (X : Cx) (fr : Bool) (L O O' : List Nat) (sts : List Stmt) (G : Env → Option Out) : Prop :=
  ∀ (φ : Nat → Option Addr) (Hf0 H0 : Hp) (ρ : Env) (σ : St) (Hf H : Hp) (out : Out) (Dn : Ends), SR X.K φ Hf0 H0 O ρ σ Hf H → G ρ = some out → Post X.K φ Hf0 H0 fr L O' Hf Dn out → wSs X sts Dn σ H
def sNil : Env → Option Out := fun ρ => some (.nx ρ)
def sSeq (F G : Env → Option Out) : Env → Option Out := fun ρ => match F ρ with | some (.nx ρ') => G ρ' | o => o
def sX (F : Env → Option D) : Env → Option Out := fun ρ => match F ρ with | some _ => some (.nx ρ) | none => none
def sRet (F : Env → Option D) : Env → Option Out := fun ρ => match F ρ with | some d => some (.rt d) | none => none
def sIf (C : Env → Option Bool) (F G : Env → Option Out) : Env → Option Out := fun ρ => match C ρ with | some true => F ρ | some false => G ρ | none => none
def sSet (i : Nat) (F : Env → Option D) : Env → Option Out := fun ρ => match F ρ with | some d => some (.nx (ρ.set i (some d))) | none => none
def sAsg (g : D → Env → Option Env) (F : Env → Option D) : Env → Option Out := fun ρ => match F ρ with | some d => (match g d ρ with | some ρ' => some (.nx ρ') | none => none) | none => none
/-- a method of the list of our own in slot i that gives None: f its items, the arguments -/
def sMut (i : Nat) (f : List D → List D → Option (List D)) (Fs : Env → Option (List D)) : Env → Option Out := fun ρ =>
  match Fs ρ with | some ds => (match eVar i ρ with | some (.lst xs) => (match f xs ds with | some ys => some (.nx (ρ.set i (some (.lst ys)))) | none => none) | _ => none) | none => none
def loopF (g : D → Env → Option Env) (G : Env → Option Out) : List D → Env → Option Out
  | [], ρ => some (.nx ρ)
  | d :: ds, ρ => match g d ρ with
    | none => none
    | some ρ1 => match G ρ1 with
      | some (.nx ρ2) => loopF g G ds ρ2
      | some (.ct ρ2) => loopF g G ds ρ2
      | some (.bk ρ2) => some (.nx ρ2)
      | some (.rt d) => some (.rt d)
      | none => none
def sFor (Fi : Env → Option (List D)) (g : D → Env → Option Env) (G : Env → Option Out) : Env → Option Out := fun ρ => match Fi ρ with | some ds => loopF g G ds ρ | none => none
def sWhile (n : Nat) (C : Env → Option Bool) (G : Env → Option Out) : Env → Option Out := match n with
  | 0 => fun _ => none
  | n + 1 => fun ρ => match C ρ with
    | some true => (match G ρ with
      | some (.nx ρ2) => sWhile n C G ρ2
      | some (.ct ρ2) => sWhile n C G ρ2
      | some (.bk ρ2) => some (.nx ρ2)
      | some (.rt d) => some (.rt d)
      | none => none)
    | some false => some (.nx ρ)
    | none => none
section
variable {X : Cx} {fr : Bool} {L O O' O1 O2 : List Nat} {st : Stmt} {sts : List Stmt} {e tg : Expr} {es : List Expr} {pos : Pos} {F : Env → Option D} {Fs : Env → Option (List D)} {G G2 : Env → Option Out} {g : D → Env → Option Env} {tgs : List Nat}
theorem fss_nil : FSs X fr L O O [] sNil := fun φ Hf0 H0 ρ σ Hf H out Dn S h P => by
  cases h
  exact toSs pss_nil (P σ Hf H (Same.refl _) S)
theorem fss_cons (h : FS X fr L O O1 st G) (t : FSs X fr L O1 O' sts G2) : FSs X fr L O O' (st :: sts) (sSeq G G2) := fun φ Hf0 H0 ρ σ Hf H out Dn S hF P => by
  refine toSs (pss_cons psW pssW) ?_
  unfold sSeq at hF
  split at hF
  · rename_i ρ' h1
    exact h φ Hf0 H0 ρ σ Hf H _ _ S h1 fun σ1 Hf1 H1 s1 S1 => t φ Hf0 H0 ρ' σ1 Hf1 H1 out Dn S1 hF (P.mono s1)
  · rename_i hne
    refine h φ Hf0 H0 ρ σ Hf H out _ S hF ?_
    cases out with
    | nx ρ' => exact absurd hF (hne ρ')
    | _ => exact P
/-- forget that lists are our own, ahead of a block -/
theorem fss_frz (h : FSs X fr L O1 O' sts G) (hL : O1.all (O.contains ·) = true) : FSs X fr L O O' sts G := fun φ Hf0 H0 ρ σ Hf H out Dn S hF P => by
  obtain ⟨Hf1, s1, S1⟩ := S.weak O1 hL
  exact h φ Hf0 H0 ρ σ Hf1 H out Dn S1 hF (P.mono s1)
theorem fs_frz (h : FS X fr L O1 O' st G) (hL : O1.all (O.contains ·) = true) : FS X fr L O O' st G := fun φ Hf0 H0 ρ σ Hf H out Dn S hF P => by
  obtain ⟨Hf1, s1, S1⟩ := S.weak O1 hL
  exact h φ Hf0 H0 ρ σ Hf1 H out Dn S1 hF (P.mono s1)
/-- .. behind a block -/
theorem fss_to (h : FSs X fr L O O1 sts G) (hL : O'.all (O1.contains ·) = true) : FSs X fr L O O' sts G := fun φ Hf0 H0 ρ σ Hf H out Dn S hF P => by
  refine h φ Hf0 H0 ρ σ Hf H out Dn S hF ?_
  cases out with
  | nx ρ' => exact fun σ' Hf' H' s' S' => let ⟨Hf2, s2, S2⟩ := S'.weak O' hL; P σ' Hf2 H' (s'.trans s2) S2
  | _ => exact P
theorem fs_to (h : FS X fr L O O1 st G) (hL : O'.all (O1.contains ·) = true) : FS X fr L O O' st G := fun φ Hf0 H0 ρ σ Hf H out Dn S hF P => by
  refine h φ Hf0 H0 ρ σ Hf H out Dn S hF ?_
  cases out with
  | nx ρ' => exact fun σ' Hf' H' s' S' => let ⟨Hf2, s2, S2⟩ := S'.weak O' hL; P σ' Hf2 H' (s'.trans s2) S2
  | _ => exact P
theorem fs_pass : FS X fr L O O (.Pass pos) sNil := fun φ Hf0 H0 ρ σ Hf H out Dn S h P => by cases h; exact toS ps_pass (P σ Hf H (Same.refl _) S)
theorem fs_doc {x : Str} {j} {p2 : Pos} : FS X fr L O O (.Expr (.Constant (.str x) j pos) p2) sNil := fun φ Hf0 H0 ρ σ Hf H out Dn S h P => by cases h; exact toS ps_doc (P σ Hf H (Same.refl _) S)
theorem fs_expr (h : FB X O e F) (hs : swapsWith e none pos.line X.env = pure false := by rfl) : FS X fr L O O (.Expr e pos) (sX F) := fun φ Hf0 H0 ρ σ Hf H out Dn S hF P => by
  unfold sX at hF
  split at hF
  · rename_i d hd
    cases hF
    exact toS (ps_expr peW hs) (h φ Hf0 H0 ρ σ Hf H d _ S hd fun v Hf1 H1 g1 r1 => P σ Hf1 H1 g1.f (S.gr g1))
  · cases hF
theorem fs_ret (h : FE X O e F) : FS X false L O O' (.Return (some e) pos) (sRet F) := fun φ Hf0 H0 ρ σ Hf H out Dn S hF P => by
  unfold sRet at hF
  split at hF
  · rename_i d hd
    cases hF
    exact toS (ps_ret peW) (h φ Hf0 H0 ρ σ Hf H d _ S hd fun v Hf1 H1 g1 r1 => P v Hf1 H1 (S.from0.trans g1) r1)
  · cases hF
theorem fs_retNew (h : FN X O e F) : FS X true L O O' (.Return (some e) pos) (sRet F) := fun φ Hf0 H0 ρ σ Hf H out Dn S hF P => by
  unfold sRet at hF
  split at hF
  · rename_i d hd
    cases hF
    refine toS (ps_ret peW) (h φ Hf0 H0 ρ σ Hf H d _ S hd fun a xs vs Hf1 H1 e1 g1 q1 q2 q3 r1 => ?_)
    exact P a xs vs Hf1 H1 e1 (S.from0.trans g1) (S.gh.free q1) q2 q3 r1
  · cases hF
theorem fs_retOwn {i : Nat} {x : Str} {p2 : Pos} (hN : X.N[i]? = some x) (hv : Vis X.env.scope x) (hO : O.contains i = true) (hd : (x == ("__debug__" : Str)) = false := by decide +kernel) (hcd : (x == ("__classdict__" : Str)) = false := by decide +kernel) :
    FS X true L O O' (.Return (some (.Name x p2)) pos) (sRet (eVar i)) := fun φ Hf0 H0 ρ σ Hf H out Dn S hF P => by
  unfold sRet at hF
  split at hF
  · rename_i d hd'
    cases hF
    have hq : ρ[i]? = some (some d) := by
      unfold eVar at hd'
      split at hd'
      · rename_i d' h; cases hd'; exact h
      · cases hd'
    obtain ⟨a, xs, vs, e1, e2, e3, e4, e5, r⟩ := S.own i d hq (by simpa using hO)
    exact toS (ps_ret (pe_var hN hv hd hcd)) ⟨_, e2, P a xs vs Hf H e1 S.from0 e5 e4 e3 r⟩
  · cases hF
theorem fs_retN : FS X false L O O' (.Return none pos) (sRet (eC .non)) := fun φ Hf0 H0 ρ σ Hf H out Dn S hF P => by
  cases hF
  exact toS ps_retN (P .non Hf H S.from0 .non)
theorem fs_if {c : Expr} {T : Env → Option Bool} {a b : List Stmt} (h : FT X O c T) (h1 : FSs X fr L O O' a G) (h2 : FSs X fr L O O' b G2) : FS X fr L O O' (.If c a b pos) (sIf T G G2) := fun φ Hf0 H0 ρ σ Hf H out Dn S hF P => by
  refine toS (ps_if ptW pssW pssW) ?_
  unfold sIf at hF
  split at hF
  · rename_i hb
    exact h φ Hf0 H0 ρ σ Hf H true _ S hb fun Hf1 H1 g1 => iteT (h1 φ Hf0 H0 ρ σ Hf1 H1 out Dn (S.gr g1) hF (P.mono g1.f))
  · rename_i hb
    exact h φ Hf0 H0 ρ σ Hf H false _ S hb fun Hf1 H1 g1 => iteF (h2 φ Hf0 H0 ρ σ Hf1 H1 out Dn (S.gr g1) hF (P.mono g1.f))
  · cases hF
theorem fs_break (hL : L.all (O.contains ·) = true) : FS X fr L O O' (.Break pos) (fun ρ => some (.bk ρ)) := fun φ Hf0 H0 ρ σ Hf H out Dn S h P => by
  cases h
  obtain ⟨Hf1, s1, S1⟩ := S.weak L hL
  exact toS ps_break (P σ Hf1 H s1 S1)
theorem fs_cont (hL : L.all (O.contains ·) = true) : FS X fr L O O' (.Continue pos) (fun ρ => some (.ct ρ)) := fun φ Hf0 H0 ρ σ Hf H out Dn S h P => by
  cases h
  obtain ⟨Hf1, s1, S1⟩ := S.weak L hL
  exact toS ps_continue (P σ Hf1 H s1 S1)
theorem fs_set {i : Nat} {x : Str} {p2 : Pos} (hN : X.N.Nodup) (hi : X.N[i]? = some x) (hx : Loc X.env.scope x) (h : FE X O e F) (hs : swapsWith e (some (.Name x p2)) pos.line X.env = pure false := by rfl) (hf : X.fn x = true ∨ X.env.scope.names.lookup x = some .local := by first | exact .inl rfl | exact .inr rfl | assumption) :
    FS X fr L O (O.filter (· != i)) (.Assign [.Name x p2] e pos) (sSet i F) := fun φ Hf0 H0 ρ σ Hf H out Dn S hF P => by
  unfold sSet at hF
  split at hF
  · rename_i d hd
    cases hF
    exact toS (ps_set hN hi hx peW hs hf) (h φ Hf0 H0 ρ σ Hf H d _ S hd fun v Hf1 H1 g1 r1 => P _ Hf1 H1 g1.f ((S.gr g1).set i r1))
  · cases hF
/-- the list that is given is nobody's -/
theorem SR.apart {K : PySem.W.Frag} {φ : Nat → Option Addr} {Hf0 H0 Hf H : Hp} {ρ : Env} {σ : St} {a : Addr} (S : SR K φ Hf0 H0 O ρ σ Hf H) (h : H a = none) : ∀ j d, ρ[j]? = some (some d) → j ∈ O → σ[j]? ≠ some (some (.ref a)) := fun j d hj m e => by
  obtain ⟨b, xs, vs, e1, e2, e3, e4, e5, r⟩ := S.own j d hj m
  rw [e] at e2
  cases e2
  rw [h] at e3
  cases e3
theorem fs_setNew {i : Nat} {x : Str} {p2 : Pos} (hN : X.N.Nodup) (hi : X.N[i]? = some x) (hx : Loc X.env.scope x) (h : FN X O e F) (hs : swapsWith e (some (.Name x p2)) pos.line X.env = pure false := by rfl) (hf : X.fn x = true ∨ X.env.scope.names.lookup x = some .local := by first | exact .inl rfl | exact .inr rfl | assumption) :
    FS X fr L O (i :: O.filter (· != i)) (.Assign [.Name x p2] e pos) (sSet i F) := fun φ Hf0 H0 ρ σ Hf H out Dn S hF P => by
  unfold sSet at hF
  split at hF
  · rename_i d hd
    cases hF
    refine toS (ps_set hN hi hx peW hs hf) (h φ Hf0 H0 ρ σ Hf H d _ S hd fun a xs vs Hf1 H1 e1 g1 q1 q2 q3 r1 => ?_)
    subst e1
    exact P _ Hf1 H1 g1.f ((S.gr g1).setOwn i q3 q2 (S.gh.free q1) (S.apart q1) r1)
  · cases hF
theorem fs_asg (h : FE X O e F) (hg : FG X O O' tgs tg g) (hs : swapsWithSole [tg] e pos.line X.env = pure false := by rfl) (hw : swappedStores [tg] e X.env = pure none := by rfl)
    (h1 : (assignEach [tg] X.env).map (·.2) = [assign tg X.env] := by rfl) : FS X fr L O O' (.Assign [tg] e pos) (sAsg g F) := fun φ Hf0 H0 ρ σ Hf H out Dn S hF P => by
  unfold sAsg at hF
  split at hF
  · rename_i d hd
    split at hF
    · rename_i ρ' hρ
      cases hF
      refine toS (ps_asg peW pgW hs hw h1) (h φ Hf0 H0 ρ σ Hf H d _ S hd fun v Hf1 H1 g1 r1 => ?_)
      exact hg φ Hf0 H0 ρ σ Hf1 H1 d v ρ' _ (S.gr g1) r1 hρ fun σ' S' _ => P σ' Hf1 H1 g1.f S'
    · cases hF
  · cases hF
/-! name = [.. for ..] -/
theorem fs_setLc {i : Nat} {y : Str} {py spos : Pos} {iter elt : Expr} {scope : Scope} {own : List (Str × Nat)} {Fi : Env → Option (List D)} {E : Env → Option D} (hc : X.calm = true) (hN : X.N.Nodup) (hy : X.N[i]? = some y) (hyl : X.env.scope.names.lookup y = some .local)
    (hsw : swapsWith (.ListComp elt [⟨tg, iter, [], 0⟩] scope pos) (some (.Name y py)) spos.line X.env = pure true) (ok : BlkOk X.N X.env.scope scope own)
    (hi : FIB X O tg iter Fi) (hg : ∀ s H C cl fp, FG (X.blk s H scope (compEnvC scope cl C X.env) fp) O O2 tgs tg g) (he : ∀ s H C cl fp, FE (X.blk s H scope (compEnvC scope cl C X.env) fp) O2 elt E)
    (htg : (tgs.all fun i => (own.map (·.2)).contains i) = true) (hs : ∀ x, foldedSetIterable iter X.env x = pure x := by intro _; rfl) : FS X fr L O (i :: O.filter (· != i)) (.Assign [.Name y py] (.ListComp elt [⟨tg, iter, [], 0⟩] scope pos) spos) (sSet i (eComp (own.map (·.2)) Fi g tYesE E)) := fun φ Hf0 H0 ρ σ Hf H out Dn S hF P => by
  unfold sSet at hF
  split at hF
  · rename_i d hd
    cases hF
    refine toS (ps_setLc (wi := wI X tg iter) (g := uG X scope tg) (tt := tYes) (te := uE X scope elt) hc hN hy hyl hsw piW ok (fun s H C cl fp => ⟨fun pins s' σ H' v u Q I r h => (h s H C cl fp).h pins s' u I r⟩) (fun _ _ _ _ _ => pts_nil) (fun s H C cl fp => ⟨fun pins s' σ H' Q I h => (h s H C cl fp).h pins s' I⟩) hs) ?_
    refine lc_go (fun _ _ _ h => h) hi hg (fun i hi => by simpa using (List.all_eq_true.mp htg) i hi) (fun φ Hf0 H0 ρ σ Hf H b Q S h k => by cases h; exact k Hf H (.refl S.sub)) he S hd fun a xs vs Hf1 H1 e1 g1 q1 q2 q3 r1 => ?_
    subst e1
    exact P _ Hf1 H1 g1.f ((S.gr g1).setOwn i q3 q2 (S.gh.free q1) (S.apart q1) r1)
  · cases hF
theorem fs_setLcIf {i : Nat} {y : Str} {py spos : Pos} {iter elt c : Expr} {scope : Scope} {own : List (Str × Nat)} {Fi : Env → Option (List D)} {T : Env → Option Bool} {E : Env → Option D} (hc : X.calm = true) (hN : X.N.Nodup) (hy : X.N[i]? = some y) (hyl : X.env.scope.names.lookup y = some .local)
    (hsw : swapsWith (.ListComp elt [⟨tg, iter, [c], 0⟩] scope pos) (some (.Name y py)) spos.line X.env = pure true) (ok : BlkOk X.N X.env.scope scope own)
    (hi : FIB X O tg iter Fi) (hg : ∀ s H C cl fp, FG (X.blk s H scope (compEnvC scope cl C X.env) fp) O O2 tgs tg g) (ht : ∀ s H C cl fp, FT (X.blk s H scope (compEnvC scope cl C X.env) fp) O2 c T) (he : ∀ s H C cl fp, FE (X.blk s H scope (compEnvC scope cl C X.env) fp) O2 elt E)
    (htg : (tgs.all fun i => (own.map (·.2)).contains i) = true) (hs : ∀ x, foldedSetIterable iter X.env x = pure x := by intro _; rfl) : FS X fr L O (i :: O.filter (· != i)) (.Assign [.Name y py] (.ListComp elt [⟨tg, iter, [c], 0⟩] scope pos) spos) (sSet i (eComp (own.map (·.2)) Fi g T E)) := fun φ Hf0 H0 ρ σ Hf H out Dn S hF P => by
  unfold sSet at hF
  split at hF
  · rename_i d hd
    cases hF
    refine toS (ps_setLc (wi := wI X tg iter) (g := uG X scope tg) (tt := uT X scope c) (te := uE X scope elt) hc hN hy hyl hsw piW ok (fun s H C cl fp => ⟨fun pins s' σ H' v u Q I r h => (h s H C cl fp).h pins s' u I r⟩) (fun s H C cl fp => pts_one ⟨fun pins s' σ H' Q I h => (h s H C cl fp).h pins s' I⟩) (fun s H C cl fp => ⟨fun pins s' σ H' Q I h => (h s H C cl fp).h pins s' I⟩) hs) ?_
    refine lc_go (fun _ _ _ h => h) hi hg (fun i hi => by simpa using (List.all_eq_true.mp htg) i hi) (fun φ Hf0 H0 ρ σ Hf H b Q S h k s0 h0 C0 cl0 fp0 => ht s0 h0 C0 cl0 fp0 φ Hf0 H0 ρ σ Hf H b Q S h k) he S hd fun a xs vs Hf1 H1 e1 g1 q1 q2 q3 r1 => ?_
    subst e1
    exact P _ Hf1 H1 g1.f ((S.gr g1).setOwn i q3 q2 (S.gh.free q1) (S.apart q1) r1)
  · cases hF
/-- a list of our own is changed -/
theorem SR.mut {K : PySem.W.Frag} {φ : Nat → Option Addr} {Hf0 H0 Hf H : Hp} {ρ : Env} {σ : St} {i : Nat} {xs ys : List D} {ws : List V} (S : SR K φ Hf0 H0 O ρ σ Hf H) (hi : ρ[i]? = some (some (.lst xs))) (hO : i ∈ O) {a : Addr} (ha : σ[i]? = some (some (.ref a))) (r : RpAll K φ Hf ys ws) :
    SR K φ Hf0 H0 O (ρ.set i (some (.lst ys))) σ Hf (upd H a (.lst ws)) := by
  obtain ⟨b, xs', vs, e1, e2, e3, e4, e5, r0⟩ := S.own i _ hi hO
  rw [ha] at e2; cases e2
  have hil : i < ρ.length := (List.getElem?_eq_some_iff.mp hi).1
  have back : ∀ {j d}, (ρ.set i (some (.lst ys)))[j]? = some (some d) → j ≠ i → ρ[j]? = some (some d) := fun {j d} h hn => by rw [List.getElem?_set_ne (Ne.symm hn)] at h; exact h
  have some' : ∀ {j d}, (ρ.set i (some (.lst ys)))[j]? = some (some d) → ∃ d', ρ[j]? = some (some d') := fun {j d} h => by
    by_cases hj : j = i
    · subst hj; exact ⟨_, hi⟩
    · exact ⟨d, back h hj⟩
  refine ⟨by rw [List.length_set]; exact S.len, fun c o e => ?_, S.gf, fun c o e => ?_, S.gn, fun j d hj hn => ?_, fun j d hj hm => ?_, fun j k d e c hj hk mj mk hne q => ?_⟩
  · rw [upd_ne (ne_of_none e e4)]; exact S.sub _ _ e
  · rw [upd_ne (ne_of_none e e5)]; exact S.gh _ _ e
  · have hji : j ≠ i := fun z => hn (z ▸ hO)
    exact S.val j d (back hj hji) hn
  · by_cases hji : j = i
    · subst hji
      rw [List.getElem?_set_self hil] at hj; cases hj
      exact ⟨a, ys, ws, rfl, ha, upd_same, e4, e5, r⟩
    · obtain ⟨c, zs, us, q1, q2, q3, q4, q5, q6⟩ := S.own j d (back hj hji) hm
      have hca : c ≠ a := by
        rintro rfl
        exact S.ne i j _ d c hi (back hj hji) hO hm (Ne.symm hji) ha q2
      exact ⟨c, zs, us, q1, q2, by rw [upd_ne hca]; exact q3, q4, q5, q6⟩
  · obtain ⟨d1, z1⟩ := some' hj
    obtain ⟨d2, z2⟩ := some' hk
    exact S.ne j k d1 d2 c z1 z2 mj mk hne q
/-- xs.m(..) as a statement -/
theorem fs_mut {i : Nat} {x : Str} {name : Str} {bid : String} {xpos apos cpos : Pos} {r : V → List V → Hp → VK → Prop} {f : List D → List D → Option (List D)} (hN : X.N[i]? = some x) (hv : Vis X.env.scope x) (hO : O.contains i = true)
    (slot : Slot "list" name bid) (hty : typeOf (.builtin bid) = pure (.type "method_descriptor")) (hm : MtR X bid r)
    (hr : ∀ (φ : Nat → Option Addr) (Hf H : Hp) (a : Addr) (xs ds ys : List D) (vs us : List V) (Q : VK), Same Hf H → H a = some (.lst vs) → RpAll X.K φ Hf xs vs → RpAll X.K φ Hf ds us → f xs ds = some ys → (∀ z ws, RpAll X.K φ Hf ys ws → Q z (upd H a (.lst ws))) → r (.ref a) us H Q)
    (ha : FA X O (e :: es) Fs) (hd : (x == ("__debug__" : Str)) = false := by decide +kernel) (hcd : (x == ("__classdict__" : Str)) = false := by decide +kernel)
    (hbase : attributeBase (.Name x xpos) name X.env (eval (.Name x xpos) X.env) = eval (.Name x xpos) X.env := by rfl)
    (hfew : ((backTo cpos (starEach (e :: es) X.env)).all (fun x => !x.1) && (backToKw cpos (keywordEach [] X.env)).all (fun x => x.1.isSome)
      && decide ((e :: es).length + ([] : List Keyword).length + (if ([] : List Keyword).isEmpty then 0 else 1) < 30)) = true := by rfl)
    (hsx : swapsWith (.Call (.Attribute (.Name x xpos) name apos) (e :: es) [] cpos) none pos.line X.env = pure false := by rfl) (hline : (apos.endLine == cpos.line) = true := by rfl) (hs : starEach (e :: es) X.env = (false, eval e X.env) :: starEach es X.env := by rfl) (hplain : (backTo cpos (starEach es X.env)).any (·.1) = false := by rfl) :
    FS X fr L O O (.Expr (.Call (.Attribute (.Name x xpos) name apos) (e :: es) [] cpos) pos) (sMut i f Fs) := fun φ Hf0 H0 ρ σ Hf H out Dn S hF P => by
  unfold sMut at hF
  split at hF
  · rename_i ds hds
    split at hF
    · rename_i xs hxs
      split at hF
      · rename_i ys hys
        cases hF
        have hq : ρ[i]? = some (some (.lst xs)) := by
          unfold eVar at hxs
          split at hxs
          · rename_i d' h; cases hxs; exact h
          · cases hxs
        have hO' : i ∈ O := by simpa using hO
        obtain ⟨a, xs', vs, e1, e2, e3, e4, e5, r0⟩ := S.own i _ hq hO'
        cases e1
        refine toS (ps_expr (pe_bm PySem.F.plainAttrs_list slot hty hm (pe_var hN hv hd hcd) paW hbase hfew hline hs hplain) hsx) ?_
        refine ⟨_, e2, .inl ⟨rfl, vs, .inl (.inl e3)⟩, ?_⟩
        refine ha φ Hf0 H0 ρ σ Hf H ds _ S hds fun us Hf1 H1 g1 r1 => ?_
        refine hr φ Hf1 H1 a xs ds ys vs us _ g1.s (g1.h _ _ e3) (r0.mono g1.f) r1 hys fun z ws rw' => ?_
        exact P σ Hf1 _ g1.f ((S.gr g1).mut hq hO' e2 rw')
      · cases hF
    · cases hF
  · cases hF
def appendF : List D → List D → Option (List D) := fun xs ds => match ds with | [d] => if xs.length < sizeLine then some (xs ++ [d]) else none | _ => none
theorem r_append {K : PySem.W.Frag} : ∀ (φ : Nat → Option Addr) (Hf H : Hp) (a : Addr) (xs ds ys : List D) (vs us : List V) (Q : VK), Same Hf H → H a = some (.lst vs) → RpAll K φ Hf xs vs → RpAll K φ Hf ds us → appendF xs ds = some ys → (∀ z ws, RpAll K φ Hf ys ws → Q z (upd H a (.lst ws))) → rAppend (.ref a) us H Q :=
  fun φ Hf H a xs ds ys vs us Q s h r q e k => by
    unfold appendF at e
    split at e
    · split at e
      · rename_i hl
        cases e
        cases q with
        | cons q t =>
          cases t
          exact ⟨a, vs, _, rfl, rfl, h, by rw [← r.length]; exact hl, k _ _ (r.append (.one q))⟩
      · cases e
    · cases e
def insertF : List D → List D → Option (List D) := fun xs ds => match ds with | [.int i, d] => if xs.length < sizeLine ∧ 0 ≤ i ∧ i < 2 ^ 63 then some (xs.take i.toNat ++ [d] ++ xs.drop i.toNat) else none | _ => none
theorem r_insert {K : PySem.W.Frag} : ∀ (φ : Nat → Option Addr) (Hf H : Hp) (a : Addr) (xs ds ys : List D) (vs us : List V) (Q : VK), Same Hf H → H a = some (.lst vs) → RpAll K φ Hf xs vs → RpAll K φ Hf ds us → insertF xs ds = some ys → (∀ z ws, RpAll K φ Hf ys ws → Q z (upd H a (.lst ws))) →
    (∃ (l : Addr) (xs : List V) (i : Int) (y : V), V.ref a = .ref l ∧ us = [.int i, y] ∧ H l = some (.lst xs) ∧ xs.length < sizeLine ∧ 0 ≤ i ∧ i < 2 ^ 63 ∧ Q .non (upd H l (.lst (xs.take i.toNat ++ [y] ++ xs.drop i.toNat)))) :=
  fun φ Hf H a xs ds ys vs us Q s h r q e k => by
    unfold insertF at e
    split at e
    · split at e
      · rename_i hl
        cases e
        cases q with
        | cons q t =>
          cases t with
          | cons q2 t =>
            cases t
            cases q
            exact ⟨a, vs, _, _, rfl, rfl, h, by rw [← r.length]; exact hl.1, hl.2.1, hl.2.2, k _ _ (((r.take _).append (.one q2)).append (r.drop _))⟩
      · cases e
    · cases e
def popAtF : List D → List D → Option (List D) := fun xs ds => match ds with | [.int i] => if -(2 ^ 63) ≤ i ∧ i < 2 ^ 63 then (match ixN xs.length i with | some k => some (xs.eraseIdx k) | none => none) else none | _ => none
/-- xs[i] = e, xs a list of our own -/
def sPut (i : Nat) (Fi F : Env → Option D) : Env → Option Out := fun ρ => match F ρ with
  | some d => (match Fi ρ with
    | some (.int k) => (match eVar i ρ with | some (.lst xs) => (match ixN xs.length k with | some j => some (.nx (ρ.set i (some (.lst (xs.set j d))))) | none => none) | _ => none)
    | _ => none)
  | none => none
theorem fs_put {i : Nat} {x : Str} {ix : Expr} {xpos spos : Pos} {Fi : Env → Option D} (hN : X.N[i]? = some x) (hv : Vis X.env.scope x) (hO : O.contains i = true) (h : FE X O e F) (hi : FE X O ix Fi)
    (hd : (x == ("__debug__" : Str)) = false := by decide +kernel) (hcd : (x == ("__classdict__" : Str)) = false := by decide +kernel)
    (hsub : ∀ v, assign (.Subscript (.Name x xpos) ix spos) X.env v = (do
      let ov ← holding [v] (eval (.Name x xpos) X.env)
      let iv ← holding [v, ov] (eval ix X.env)
      standAt spos
      holding [v, ov, iv] (setItem ov iv v)
      release [v, ov, iv] []) := by intro _; rfl)
    (hs : swapsWithSole [.Subscript (.Name x xpos) ix spos] e pos.line X.env = pure false := by rfl) (hw : swappedStores [.Subscript (.Name x xpos) ix spos] e X.env = pure none := by rfl)
    (h1 : (assignEach [.Subscript (.Name x xpos) ix spos] X.env).map (·.2) = [assign (.Subscript (.Name x xpos) ix spos) X.env] := by rfl) :
    FS X fr L O O (.Assign [.Subscript (.Name x xpos) ix spos] e pos) (sPut i Fi F) := fun φ Hf0 H0 ρ σ Hf H out Dn S hF P => by
  unfold sPut at hF
  split at hF
  · rename_i d hd'
    split at hF
    · rename_i k hk
      split at hF
      · rename_i xs hxs
        split at hF
        · rename_i j hj
          cases hF
          have hq : ρ[i]? = some (some (.lst xs)) := by
            unfold eVar at hxs
            split at hxs
            · rename_i d' h; cases hxs; exact h
            · cases hxs
          have hO' : i ∈ O := by simpa using hO
          obtain ⟨a, xs', vs, e1, e2, e3, e4, e5, r0⟩ := S.own i _ hq hO'
          cases e1
          refine toS (ps_asg peW (pg_sub (pe_var hN hv hd hcd) peW set_list hsub) hs hw h1) ?_
          refine h φ Hf0 H0 ρ σ Hf H d _ S hd' fun v Hf1 H1 g1 r1 => ?_
          refine ⟨_, e2, ?_⟩
          refine hi φ Hf0 H0 ρ σ Hf1 H1 _ _ (S.gr g1) hk fun z Hf2 H2 g2 r2 => ?_
          cases r2
          have g := g1.trans g2
          refine ⟨a, vs, k, j, rfl, rfl, g.h _ _ e3, by rw [← r0.length]; exact hj, ?_⟩
          exact P σ Hf2 _ g.f ((S.gr g).mut hq hO' e2 ((r0.mono g.f).set j (r1.mono g2.f)))
        · cases hF
      · cases hF
    · cases hF
  · cases hF
/-! loops -/
theorem fs_for {iter : Expr} {body : List Stmt} {Fi : Env → Option (List D)} (hp : PassesOwn (model X.prog X.w) X.A X.env X.xe) (hc : X.calm = true) (hi : FI X O tg iter Fi) (hg : FG X O O1 tgs tg g) (hb : FSs X fr O O1 O body G) (hs : ∀ x, foldedSetIterable iter X.env x = pure x := by intro _; rfl) : FS X fr L O O (.For tg iter body [] pos) (sFor Fi g G) := fun φ Hf0 H0 ρ σ Hf H out Dn S hF P => by
  unfold sFor at hF
  split at hF
  · rename_i ds hds
    refine toS (ps_for hp hc piW pgW pssW hs) ?_
    refine hi φ Hf0 H0 ρ σ Hf H ds _ S hds fun J Hf1 H1 g1 itd => ?_
    refine ⟨fun i m σ2 H2 => m = ds.length - i ∧ i ≤ ds.length ∧ ∃ ρ2 Hf2, Same Hf1 Hf2 ∧ SR X.K φ Hf0 H0 O ρ2 σ2 Hf2 H2 ∧ loopF g G (ds.drop i) ρ2 = some out, ⟨ds.length, by simp, Nat.zero_le _, ρ, Hf1, Same.refl _, S.gr g1, by simpa using hF⟩, ?_⟩
    rintro i m σ2 H2 ⟨rfl, hil, ρ2, Hf2, s2, S2, hl⟩
    by_cases hlt : i < ds.length
    · right
      have hget : ds[i]? = some ds[i] := List.getElem?_eq_getElem hlt
      obtain ⟨hgo, hyld⟩ := (itd i Hf2 H2 s2 S2.sub).2 _ hget
      rw [List.drop_eq_getElem_cons hlt] at hl
      unfold loopF at hl
      split at hl
      · cases hl
      · rename_i ρ3 hρ3
        refine ⟨hgo, fun σ' H' => ∃ ρ' Hf', Same Hf1 Hf' ∧ SR X.K φ Hf0 H0 O ρ' σ' Hf' H' ∧ loopF g G (ds.drop (i + 1)) ρ' = some out, fun σ' H' ⟨ρ', Hf', a1, a2, a3⟩ => ⟨ds.length - (i + 1), by omega, rfl, hlt, ρ', Hf', a1, a2, a3⟩, fun x H3 hy => ?_⟩
        obtain ⟨Hf3, g3, r3⟩ := hyld x H3 hy
        have s3 := s2.trans g3.f
        refine hg φ Hf0 H0 ρ2 σ2 Hf3 H3 _ x ρ3 _ (S2.gr g3) r3 hρ3 fun σ4 S4 _ => ?_
        split at hl
        · rename_i ρ4 h4
          exact hb φ Hf0 H0 ρ3 σ4 Hf3 H3 _ _ S4 h4 fun σ' Hf' H' s' S' => ⟨ρ4, Hf', s3.trans s', S', hl⟩
        · rename_i ρ4 h4
          exact hb φ Hf0 H0 ρ3 σ4 Hf3 H3 _ _ S4 h4 fun σ' Hf' H' s' S' => ⟨ρ4, Hf', s3.trans s', S', hl⟩
        · rename_i ρ4 h4
          cases hl
          exact hb φ Hf0 H0 ρ3 σ4 Hf3 H3 _ _ S4 h4 fun σ' Hf' H' s' S' => P σ' Hf' H' (g1.f.trans (s3.trans s')) S'
        · rename_i d h4
          cases hl
          exact hb φ Hf0 H0 ρ3 σ4 Hf3 H3 _ _ S4 h4 P
        · cases hl
    · left
      have hie : i = ds.length := by omega
      subst hie
      rw [List.drop_length] at hl
      cases hl
      exact ⟨(itd _ Hf2 H2 s2 S2.sub).1 (Nat.le_refl _), P σ2 Hf2 H2 (g1.f.trans s2) S2⟩
  · cases hF
theorem fs_while {n : Nat} {c : Expr} {T : Env → Option Bool} {body : List Stmt} (hp : PassesOwn (model X.prog X.w) X.A X.env X.xe) (h : FT X O c T) (hb : FSs X fr O O O body G) : FS X fr L O O (.While c body [] pos) (sWhile n T G) := fun φ Hf0 H0 ρ σ Hf H out Dn S hF P => by
  refine toS (ps_while hp ptW pssW) ?_
  refine ⟨fun m σ2 H2 => ∃ ρ2 Hf2, Same Hf Hf2 ∧ SR X.K φ Hf0 H0 O ρ2 σ2 Hf2 H2 ∧ sWhile m T G ρ2 = some out, ⟨n, ρ, Hf, Same.refl _, S, hF⟩, ?_⟩
  rintro m σ2 H2 ⟨ρ2, Hf2, s2, S2, hl⟩
  cases m with
  | zero => cases hl
  | succ m =>
    unfold sWhile at hl
    split at hl
    · rename_i hT
      refine h φ Hf0 H0 ρ2 σ2 Hf2 H2 true _ S2 hT fun Hf3 H3 g3 => iteT ?_
      have s3 := s2.trans g3.f
      refine ⟨fun σ' H' => ∃ ρ' Hf', Same Hf Hf' ∧ SR X.K φ Hf0 H0 O ρ' σ' Hf' H' ∧ sWhile m T G ρ' = some out, fun σ' H' ⟨ρ', Hf', a1, a2, a3⟩ => ⟨m, Nat.lt_succ_self m, ρ', Hf', a1, a2, a3⟩, ?_⟩
      split at hl
      · rename_i ρ4 h4
        exact hb φ Hf0 H0 ρ2 σ2 Hf3 H3 _ _ (S2.gr g3) h4 fun σ' Hf' H' s' S' => ⟨ρ4, Hf', s3.trans s', S', hl⟩
      · rename_i ρ4 h4
        exact hb φ Hf0 H0 ρ2 σ2 Hf3 H3 _ _ (S2.gr g3) h4 fun σ' Hf' H' s' S' => ⟨ρ4, Hf', s3.trans s', S', hl⟩
      · rename_i ρ4 h4
        cases hl
        exact hb φ Hf0 H0 ρ2 σ2 Hf3 H3 _ _ (S2.gr g3) h4 fun σ' Hf' H' s' S' => P σ' Hf' H' (s3.trans s') S'
      · rename_i d h4
        cases hl
        exact hb φ Hf0 H0 ρ2 σ2 Hf3 H3 _ _ (S2.gr g3) h4 P
      · cases hl
    · rename_i hT
      cases hl
      exact h φ Hf0 H0 ρ2 σ2 Hf2 H2 false _ S2 hT fun Hf3 H3 g3 => iteF (P σ2 Hf3 H3 (s2.trans g3.f) (S2.gr g3))
    · cases hl
end

/-! ### defs -/
/-- the promise of a def that makes new things alone: m, its mirror over n arguments -/
def spF (K : PySem.W.Frag) (fr : Bool) (n : Nat) (m : List D → Option D) : Sp := fun vs H Q _ => ∃ (φ : Nat → Option Addr) (Hf : Hp) (ds : List D) (d : D), Same Hf H ∧ RpAll K φ Hf ds vs ∧ ds.length = n ∧ m ds = some d ∧ RtK K φ Hf H fr d Q
def envOf (N n : Nat) (ds : List D) : Env := ds.map some ++ List.replicate (N - n) none
/-- a def's mirror: its body's -/
def runD (fr : Bool) (N n : Nat) (G : Env → Option Out) (ds : List D) : Option D := match G (envOf N n ds) with
  | some (.rt d) => some d
  | some (.nx _) => if fr then none else some .non
  | _ => none
end FL
namespace FL
open PySem L2

/-! ### a def that makes new things alone, called by its name -/
structure CalK (P : Program) (w : World) (K : PySem.W.Frag) (mg : Str → Option Value) (base : Heap) (k : Nat) (x : Str) (fr : Bool) (n : Nat) (m : List D → Option D) : Prop where
  ok : ∃ (f : Addr) (fd : FuncData) (ps : List Str), FnOk P w K mg base CX0 k f fd ps (spF K fr n m) ∧ mg x = some (.ref f) ∧ PySem.W.keepIn K (.ref f) = true ∧ Binds K fd ps []
abbrev DefAt (K : PySem.W.Frag) (x : Str) (st : Stmt) (a : Addr) : Prop := ∃ fd, FunD K x x (defArgs st) (defBody st) (defScope st) [] [] a fd
section
variable {P : Program} {w : World} {K : PySem.W.Frag} {mg : Str → Option Value} {base : Heap} {k : Nat} {a : Addr} {ps N : List Str} {x : Str} {st : Stmt} {m : List D → Option D} {G : Env → Option Out}
theorem RpAll.val {φ : Nat → Option Addr} {H : Hp} {ds : List D} {vs : List V} (r : RpAll K φ H ds vs) (n : Nat) : ∀ (i : Nat) (d : D), (ds.map some ++ List.replicate n none)[i]? = some (some d) → ∃ v, (vs.map some ++ List.replicate n none)[i]? = some (some v) ∧ Rp K φ H d v := fun i d e => by
  by_cases hi : i < ds.length
  · rw [List.getElem?_append_left (by simpa using hi)] at e
    rw [List.getElem?_append_left (by rw [List.length_map, ← r.length]; exact hi)]
    rw [List.getElem?_map] at e ⊢
    cases hq : ds[i]? with
    | none => rw [hq] at e; cases e
    | some d' =>
      rw [hq] at e; cases e
      obtain ⟨v, h1, h2⟩ := r.get hq
      exact ⟨v, by rw [h1]; rfl, h2⟩
  · rw [List.getElem?_append_right (by simpa using hi), List.length_map, List.getElem?_replicate] at e
    split at e <;> cases e
theorem fnOk_of {fd : FuncData} {N' n : Nat} (F : FunD K x x (defArgs st) (defBody st) (defScope st) [] [] a fd) (S : FnScope N ps (defScope st)) (hN : N' = N.length) (hn : n = ps.length) {fr : Bool} (O' : List Nat)
    (hb : ∀ (cdv : Value) (A : Around) (outer : List PySem.Env) (s : Shared) (H : Hp) (E : XK), Room k (A.deeper (PyProof.Rows.envOfC x (defScope st) s.heap.objs.size a cdv)) →
      FSs (cxOf CX0 P w K mg base N x (defScope st) a cdv A outer s H E).nox fr [] [] O' (defBody st) G) : FnOk P w K mg base CX0 (k + 1) a fd ps (spF K fr n (runD fr N' n G)) := by
  subst hN hn
  refine FunD.ok F S (fun vs H Q E h => ?_) (fun cdv A outer s H vs Q E hr h => ?_)
  · obtain ⟨φ, Hf, ds, d, _, r, hl, _⟩ := h
    rw [← r.length]; exact hl
  · obtain ⟨φ, Hf, ds, d, hs, r, hl, hm, hk⟩ := h
    refine ⟨_, PSs.nox pssW, ?_⟩
    have hvl : vs.length = ps.length := by rw [← r.length]; exact hl
    unfold L2.start
    rw [hvl]
    unfold runD envOf at hm
    have S0 : SR K φ Hf H [] (ds.map some ++ List.replicate (N.length - ps.length) none) (vs.map some ++ List.replicate (N.length - ps.length) none) Hf H :=
      ⟨by simp [r.length], hs, Same.refl _, Same.refl _, fun _ _ _ z => z, fun i d e _ => r.val _ i d e, fun i d _ m => absurd m (by simp), fun i j _ _ _ _ _ m => absurd m (by simp)⟩
    split at hm
    · rename_i d' h'
      cases hm
      exact hb cdv A outer s H E hr φ Hf H _ _ Hf H _ _ S0 h' hk
    · rename_i ρ' h'
      cases fr with
      | false =>
        cases hm
        exact hb cdv A outer s H E hr φ Hf H _ _ Hf H _ _ S0 h' fun σ' Hf' H' s' S' => hk _ Hf' H' S'.from0 .non
      | true => cases hm
    · cases hm
theorem calK_of {N' n : Nat} (Dd : DefAt K x st a) (g : mg x = some (.ref a)) (S : FnScope N ps (defScope st)) (hN : N' = N.length) (hn : n = ps.length)
    (hbind : ∀ (kV doc pm : Value) (an : Option Addr) (cdv ct : Value) (us : List Value), us.length = ps.length → bindArgs (PySem.W.fnOf x x (defArgs st) (defBody st) (defScope st) .none kV doc pm an cdv ct) ⟨us, []⟩ = pure (ps.zip us))
    {fr : Bool} (O' : List Nat)
    (hb : ∀ (cdv : Value) (A : Around) (outer : List PySem.Env) (s : Shared) (H : Hp) (E : XK), Room k (A.deeper (PyProof.Rows.envOfC x (defScope st) s.heap.objs.size a cdv)) →
      FSs (cxOf CX0 P w K mg base N x (defScope st) a cdv A outer s H E).nox fr [] [] O' (defBody st) G) : CalK P w K mg base (k + 1) x fr n (runD fr N' n G) := by
  obtain ⟨fd, F⟩ := Dd
  exact ⟨a, fd, ps, fnOk_of F S hN hn O' hb, g, F.kp, FunD.bindsN F hbind⟩
/-- a def of which nothing is asked -/
theorem calK_zero {fr : Bool} {n : Nat} (Dd : DefAt K x st a) (g : mg x = some (.ref a)) (hbind : ∀ (kV doc pm : Value) (an : Option Addr) (cdv ct : Value) (us : List Value), us.length = ps.length → bindArgs (PySem.W.fnOf x x (defArgs st) (defBody st) (defScope st) .none kV doc pm an cdv ct) ⟨us, []⟩ = pure (ps.zip us)) : CalK P w K mg base k x fr n (fun _ => none) := by
  obtain ⟨fd, F⟩ := Dd
  exact ⟨a, fd, ps, ⟨fun vs H Q E ⟨_, _, _, _, _, _, _, h, _⟩ => (nomatch h), fun A outer s H args us vs Q E _ _ _ _ ⟨_, _, _, _, _, _, _, h, _⟩ => (nomatch h)⟩, g, F.kp, FunD.bindsN F hbind⟩
theorem CalK.mono {j : Nat} {fr : Bool} {n : Nat} (c : CalK P w K mg base j x fr n m) (h : j ≤ k) : CalK P w K mg base k x fr n m := by
  obtain ⟨f, fd, ps, F, q⟩ := c.ok
  exact ⟨f, fd, ps, F.mono h, q⟩
end
section
variable {X : Cx} {O : List Nat} {es : List Expr} {e : Expr} {x : Str} {p pos : Pos} {Fs : Env → Option (List D)} {k j : Nat} {n : Nat} {m : List D → Option D}
def mL (n : Nat) (m : List D → Option D) : List D → Option D := fun ds => if ds.length = n then m ds else none
theorem fe_call (c : CalK X.prog X.w X.K X.mg X.base j x false n m) (hr : Room k X.A) (hk : j ≤ k) (hg : Gl X x) (ha : FA X O (e :: es) Fs) (hdb : (x == ("__debug__" : Str)) = false := by decide +kernel) (he : starEach (e :: es) X.env = (false, eval e X.env) :: starEach es X.env := by rfl)
    (hpl : (backTo pos (starEach es X.env)).any (·.1) = false := by rfl) : FE X O (.Call (.Name x p) (e :: es) [] pos) (eL (mL n m) Fs) := by
  obtain ⟨f, fd, ps, F, hm, hkp, hb⟩ := c.ok
  intro φ Hf0 H0 ρ σ Hf H d Q S hF k'
  obtain ⟨ds, h1, h2⟩ := eL_some hF
  unfold mL at h2
  split at h2
  · rename_i hl
    refine toE (pe_call F (hr.mono hk) hg hm hkp hb .nil pass0 paW hdb he hpl) ?_
    refine ha φ Hf0 H0 ρ σ Hf H ds _ S h1 fun vs Hf1 H1 g1 r1 => ?_
    refine ⟨φ, Hf1, ds, d, g1.s, by rw [List.append_nil]; exact r1, hl, h2, fun v Hf2 H2 g2 r2 => k' v Hf2 H2 (g1.trans g2) r2⟩
  · cases h2
theorem fn_call (c : CalK X.prog X.w X.K X.mg X.base j x true n m) (hr : Room k X.A) (hk : j ≤ k) (hg : Gl X x) (ha : FA X O (e :: es) Fs) (hdb : (x == ("__debug__" : Str)) = false := by decide +kernel) (he : starEach (e :: es) X.env = (false, eval e X.env) :: starEach es X.env := by rfl)
    (hpl : (backTo pos (starEach es X.env)).any (·.1) = false := by rfl) : FN X O (.Call (.Name x p) (e :: es) [] pos) (eL (mL n m) Fs) := by
  obtain ⟨f, fd, ps, F, hm, hkp, hb⟩ := c.ok
  intro φ Hf0 H0 ρ σ Hf H d Q S hF k'
  obtain ⟨ds, h1, h2⟩ := eL_some hF
  unfold mL at h2
  split at h2
  · rename_i hl
    refine toE (pe_call F (hr.mono hk) hg hm hkp hb .nil pass0 paW hdb he hpl) ?_
    refine ha φ Hf0 H0 ρ σ Hf H ds _ S h1 fun vs Hf1 H1 g1 r1 => ?_
    refine ⟨φ, Hf1, ds, d, g1.s, by rw [List.append_nil]; exact r1, hl, h2, fun a xs us Hf2 H2 hd g2 q1 q2 q3 r2 => k' a xs us Hf2 H2 hd (g1.trans g2) (g1.h.free q1) q2 q3 r2⟩
  · cases h2
theorem fe_call0 (c : CalK X.prog X.w X.K X.mg X.base j x false 0 m) (hr : Room k X.A) (hk : j ≤ k) (hg : Gl X x) (hdb : (x == ("__debug__" : Str)) = false := by decide +kernel) : FE X O (.Call (.Name x p) [] [] pos) (eL (mL 0 m) aNil) := by
  obtain ⟨f, fd, ps, F, hm, hkp, hb⟩ := c.ok
  intro φ Hf0 H0 ρ σ Hf H d Q S hF k'
  obtain ⟨ds, h1, h2⟩ := eL_some hF
  cases h1
  exact toE (pe_call0 F (hr.mono hk) hg hm hkp hb .nil pass0 hdb) ⟨φ, Hf, [], d, S.sub, .nil, rfl, h2, fun v Hf2 H2 g2 r2 => k' v Hf2 H2 g2 r2⟩
theorem fn_call0 (c : CalK X.prog X.w X.K X.mg X.base j x true 0 m) (hr : Room k X.A) (hk : j ≤ k) (hg : Gl X x) (hdb : (x == ("__debug__" : Str)) = false := by decide +kernel) : FN X O (.Call (.Name x p) [] [] pos) (eL (mL 0 m) aNil) := by
  obtain ⟨f, fd, ps, F, hm, hkp, hb⟩ := c.ok
  intro φ Hf0 H0 ρ σ Hf H d Q S hF k'
  obtain ⟨ds, h1, h2⟩ := eL_some hF
  cases h1
  exact toE (pe_call0 F (hr.mono hk) hg hm hkp hb .nil pass0 hdb) ⟨φ, Hf, [], d, S.sub, .nil, rfl, h2, fun a xs us Hf2 H2 hd g2 q1 q2 q3 r2 => k' a xs us Hf2 H2 hd g2 q1 q2 q3 r2⟩
theorem u64 {A : Around} (h : Room k A) : A.units + 64 < cLine := h.units
theorem u65 {A : Around} (h : Room k A) : A.units + 65 < cLine := by have := h.un; omega
end

/-! ### constants of the module -/
mutual
def cB (K : PySem.W.Frag) : D → Value → Bool
  | .non, .none => true
  | .bl b, .bool c => b == c
  | .int i, .int j _ => decide (i = j)
  | .str x, .str y _ => decide (x = y)
  | .tup ds, .ref a => (match K.lookup a with
    | some ⟨.type c, _, .seq its _, _⟩ => decide (c = "tuple") && (decide (its.size ≤ sizeLine) && cBs K ds its.toList)
    | _ => false)
  | .klst ds, .ref a => (match K.lookup a with
    | some ⟨.type c, none, .seq its _, _⟩ => decide (c = "list") && (decide (its.size ≤ sizeLine) && cBs K ds its.toList)
    | _ => false)
  | _, _ => false
def cBs (K : PySem.W.Frag) : List D → List Value → Bool
  | [], [] => true
  | d :: ds, u :: us => cB K d u && cBs K ds us
  | _, _ => false
end
mutual
theorem cB_ok {K : PySem.W.Frag} : ∀ {d : D} {u : Value}, cB K d u = true → ∃ v, RelV v u ∧ RpK K d v
  | .non, u, h => by
    cases u <;> simp only [cB] at h <;> try (cases h)
    exact ⟨.non, rfl, fun _ _ => .non⟩
  | .bl b, u, h => by
    cases u <;> simp only [cB] at h <;> try (cases h)
    rename_i c
    have : b = c := by simpa using h
    subst this
    exact ⟨.bl b, rfl, fun _ _ => .bl b⟩
  | .int i, u, h => by
    cases u <;> simp only [cB] at h <;> try (cases h)
    rename_i j t
    have : i = j := of_decide_eq_true h
    subst this
    exact ⟨.int i, ⟨t, rfl⟩, fun _ _ => .int i⟩
  | .str x, u, h => by
    cases u <;> simp only [cB] at h <;> try (cases h)
    rename_i y t
    have : x = y := of_decide_eq_true h
    subst this
    exact ⟨.str x, ⟨t, rfl⟩, fun _ _ => .str x⟩
  | .tup ds, u, h => by
    cases u <;> simp only [cB] at h <;> try (cases h)
    rename_i a
    split at h
    · rename_i c od its n sl hq
      rw [Bool.and_eq_true, Bool.and_eq_true] at h
      obtain ⟨h1, h2, h3⟩ := h
      obtain ⟨vs, r1, r2⟩ := cBs_ok h3
      exact ⟨.ref a, rfl, fun φ H => .tup (.inr ⟨_, its, n, hq, congrArg Value.type (of_decide_eq_true h1), rfl, of_decide_eq_true h2, r1⟩) (r2 φ H)⟩
    · cases h
  | .klst ds, u, h => by
    cases u <;> simp only [cB] at h <;> try (cases h)
    rename_i a
    split at h
    · rename_i c its n sl hq
      rw [Bool.and_eq_true, Bool.and_eq_true] at h
      obtain ⟨h1, h2, h3⟩ := h
      obtain ⟨vs, r1, r2⟩ := cBs_ok h3
      exact ⟨.ref a, rfl, fun φ H => .klst (.inr ⟨_, its, n, hq, congrArg Value.type (of_decide_eq_true h1), rfl, rfl, of_decide_eq_true h2, r1⟩) (r2 φ H)⟩
    · cases h
  | .lst ds, u, h => by cases u <;> simp only [cB] at h <;> cases h
  | .obj i, u, h => by cases u <;> simp only [cB] at h <;> cases h
  | .ins c fs ds, u, h => by cases u <;> simp only [cB] at h <;> cases h
  | .dct fs ds, u, h => by cases u <;> simp only [cB] at h <;> cases h
theorem cBs_ok {K : PySem.W.Frag} : ∀ {ds : List D} {us : List Value}, cBs K ds us = true → ∃ vs, Vals vs us ∧ ∀ φ H, RpAll K φ H ds vs
  | [], [], _ => ⟨[], .nil, fun _ _ => .nil⟩
  | d :: ds, u :: us, h => by
    simp only [cBs, Bool.and_eq_true] at h
    obtain ⟨v, r1, r2⟩ := cB_ok h.1
    obtain ⟨vs, q1, q2⟩ := cBs_ok h.2
    exact ⟨v :: vs, .cons r1 q1, fun φ H => .cons (r2 φ H) (q2 φ H)⟩
  | [], _ :: _, h => by simp [cBs] at h
  | _ :: _, [], h => by simp [cBs] at h
end
/-- the module's name x stands for d -/
def conB (K : PySem.W.Frag) (x : Str) (d : D) : Bool := match PySem.W.nsIn K mainGlobals x with
  | some (some u) => cB K d u
  | _ => false
def ConAt (K : PySem.W.Frag) (mg : Str → Option Value) (x : Str) (d : D) : Prop := ∃ u v, mg x = some u ∧ RelV v u ∧ RpK K d v
theorem conB_ok {K : PySem.W.Frag} {h : Heap} {mg : Str → Option Value} (X : K.In h) (G : h.Ns mainGlobals mg) {x : Str} {d : D} (c : conB K x d = true) : ConAt K mg x d := by
  unfold conB at c
  split at c
  · rename_i u hu
    obtain ⟨v, r1, r2⟩ := cB_ok c
    exact ⟨u, v, PySem.W.mg_of X G hu, r1, r2⟩
  · cases c

/-! ### the head's facts, and one more Bool -/
def obsF (n : Nat) (fa : List He.Fa) (fn : List He.DefD) (ex : PySem.W.Frag → Bool) (g : Addr → Option Obj) : He.AlD × Bool := (He.obsD fa fn (He.frG g (He.asD g n)), ex (He.frG g (He.asD g n)))
def SaysF (fa : List He.Fa) (fn : List He.DefD) (ex : PySem.W.Frag → Bool) (K : PySem.W.Frag) : Prop := He.SaysD fa fn K ∧ ex K = true
def hookF (n : Nat) (fa : List He.Fa) (fn : List He.DefD) (ex : PySem.W.Frag → Bool) : PySem.W.Hook where
  α := He.AlD × Bool
  obs := fun s => obsF n fa fn ex s.heap.get?
  val := fun _ => (He.valD fn, true)
  says := fun _ h => ∃ K : PySem.W.Frag, K.In h ∧ SaysF fa fn ex K
  of := fun _ _ e => ⟨_, He.frG_in, congrArg (fun z : He.AlD × Bool => z.1) e, congrArg (fun z : He.AlD × Bool => z.2) e⟩
  keeps := fun _ _ _ ⟨K, hK, c⟩ k => ⟨K, PySem.W.Frag.In.keeps hK k, c⟩
theorem obsF_eq {n : Nat} {fa : List He.Fa} {fn : List He.DefD} {ex : PySem.W.Frag → Bool} {g : Addr → Option Obj} {s : Shared} (h : ∀ a, g a = s.heap.get? a) : obsF n fa fn ex g = (hookF n fa fn ex).obs s := by
  have e : g = s.heap.get? := funext h
  rw [e] <;> rfl
theorem defAt_of {K : PySem.W.Frag} {fa : List He.Fa} {fn : List He.DefD} (c : He.SaysD fa fn K) {x : Str} {st : Stmt} (i : Nat) (h : fn[i]? = some ⟨(x, none), x, x, defArgs st, defBody st, defScope st, [], []⟩) : DefAt K x st (He.ga K x) := c.def_ i h

/-! ### the law's end -/
theorem law_sp {K : PySem.W.Frag} {m : List D → Option D} (hm : ∀ ns : List Int, ns.length ≤ 63 → m [.klst (ns.map D.int)] = some (.bl true)) :
    ∀ (H : Hp) (a : Addr) (ns : List Int), ns.length ≤ 63 → L2.Only H → SqL K H a (ns.map V.int) → spF K false 1 m [.ref a] H (fun v _ => v = .bl true) fun _ _ _ => False := fun H a ns hl _ hS => by
  have r : RpAll K (fun _ => none) H (ns.map D.int) (ns.map V.int) := by
    induction ns with
    | nil => exact .nil
    | cons n ns ih =>
      have : ∀ l : List Int, RpAll K (fun _ => none) H (l.map D.int) (l.map V.int) := fun l => by
        induction l with
        | nil => exact .nil
        | cons z l ih2 => exact .cons (.int z) ih2
      exact this (n :: ns)
  exact ⟨fun _ => none, H, [.klst (ns.map D.int)], .bl true, Same.refl _, .cons (.klst hS r) .nil, rfl, hm ns hl, fun v Hf' H' g r => by cases r; rfl⟩
end FL
namespace FL
open PySem L2
def negD : D → Option D | .int i => some (.int (-i)) | _ => none
section
variable {X : Cx} {O : List Nat} {a b e : Expr} {pos : Pos} {F G : Env → Option D}
theorem fe_neg (h : FE X O a F) : FE X O (.UnaryOp .USub a pos) (e1 negD F) := by
  intro φ Hf0 H0 ρ σ Hf H d Q S hF k
  obtain ⟨x, h1, h2⟩ := e1_some hF
  refine toE (pe_un un_neg peW) ?_
  refine h φ Hf0 H0 ρ σ Hf H x _ S h1 fun v Hf1 H1 g1 r1 => ?_
  unfold negD at h2
  split at h2
  · cases h2
    cases r1
    exact ⟨_, rfl, k _ Hf1 H1 g1 (.int _)⟩
  · cases h2
theorem r_popAt {K : PySem.W.Frag} : ∀ (φ : Nat → Option Addr) (Hf H : Hp) (a : Addr) (xs ds ys : List D) (vs us : List V) (Q : VK), Same Hf H → H a = some (.lst vs) → RpAll K φ Hf xs vs → RpAll K φ Hf ds us → popAtF xs ds = some ys → (∀ z ws, RpAll K φ Hf ys ws → Q z (upd H a (.lst ws))) → rPopAt (.ref a) us H Q :=
  fun φ Hf H a xs ds ys vs us Q s h r q e k => by
    unfold popAtF at e
    split at e
    · split at e
      · rename_i hb
        split at e
        · rename_i j hj
          cases e
          cases q with
          | cons q t =>
            cases t
            cases q
            rw [r.length] at hj
            obtain ⟨h1, h2, h3, h4⟩ := ixN_seq hj
            refine ⟨a, vs, _, j, vs[j], rfl, rfl, h, hb.1, hb.2, h1, List.getElem?_eq_getElem h2, k _ _ (r.eraseIdx j)⟩
        · cases e
      · cases e
    · cases e
end
end FL
namespace FL
open PySem L2
/-! ### names that nobody reads any more -/
def sForget (vs : List Nat) (G : Env → Option Out) : Env → Option Out := fun ρ => G (wipeE ρ vs)
theorem SR.forget {K : PySem.W.Frag} {φ : Nat → Option Addr} {Hf0 H0 Hf H : Hp} {O : List Nat} {ρ : Env} {σ : St} (S : SR K φ Hf0 H0 O ρ σ Hf H) (vs : List Nat) : SR K φ Hf0 H0 O (wipeE ρ vs) σ Hf H :=
  ⟨by rw [wipeE_len]; exact S.len, S.sub, S.gf, S.gh, S.gn, fun i d e n => S.val i d (wipeE_some e).1 n, fun i d e m => S.own i d (wipeE_some e).1 m, fun i j d e a h1 h2 m1 m2 hne q1 => S.ne i j d e a (wipeE_some h1).1 (wipeE_some h2).1 m1 m2 hne q1⟩
theorem fss_forget {X : Cx} {fr : Bool} {L O O' : List Nat} {sts : List Stmt} {G : Env → Option Out} (vs : List Nat) (h : FSs X fr L O O' sts G) : FSs X fr L O O' sts (sForget vs G) := fun φ Hf0 H0 ρ σ Hf H out Dn S hF P =>
  h φ Hf0 H0 (wipeE ρ vs) σ Hf H out Dn (S.forget vs) hF P
end FL
namespace FL
open PySem L2 PyProof.Rows
/-! ### xs.extend(a tuple) -/
section
open PySem.SeqAt PySem.AutoSeq1 PySem.MeetsSeq2 PySem.MeetsSeq3 PySem.MeetsSeq
/-- as the library's rule for a plain tuple; here the tuple may have fields and slots -/
theorem ext_tup {a t : Addr} {xs zs : Array Value} {k m : Nat} {dz : Option Addr} {sz : Array (Option Value)} (h1 : xs.size ≤ sizeLine) (h2 : xs.size + zs.size ≤ sizeLine) :
    Meets (Builtin.«list.extend» ⟨[.ref a, .ref t], []⟩) (fun _ Rr st => st.heap.get? a = some { cls := .type "list", dict := none, data := .seq xs k, slots := #[] } ∧
      st.heap.get? t = some { cls := .type "tuple", dict := dz, data := .seq zs m, slots := sz } ∧ Rr (.ok (.ret Value.none)) { st with heap := st.heap.update a (Obj.mapSeq fun ys => ys ++ zs), toks := st.toks }) := by
  have short : ¬ (!xs.isEmpty && Builtin.List.listTooLong (xs.size + zs.size)) = true := fun bad => by
    have := notLongL h2
    simp [this] at bad
  have room : (xs ++ zs).size ≤ sizeLine + 1 := Nat.le_succ_of_le (by simpa using h2)
  refine .of_wp fun P W0 B Rr st hyp => ?_
  rcases st with ⟨heap, glob, dep, tks, out⟩
  rcases hyp with ⟨ha, ht, hR⟩
  have q1 := idx_int; have q2 := AutoSeq1.sub_tuple_list; have q3 := AutoSeq1.sub_list_tuple; have q4 := AutoSeq1.sub_list_list; have q5 := AutoSeq1.sub_tuple_tuple
  wp_walk using wpAny_loadPart' ht, wpAny_loadPart' ha, (wpAny_updateSeq ha rfl (hz := h1) (_hz' := room))
  exact ⟨_, rfl, hR⟩
end
section
variable {X : Cx} {O : List Nat}
def rExtT (K : PySem.W.Frag) : V → List V → Hp → VK → Prop := fun v vs H Q => ∃ a t xs zs, v = .ref a ∧ vs = [.ref t] ∧ H a = some (.lst xs) ∧ SqT K H t zs ∧ xs.length + zs.length ≤ sizeLine ∧ Q .non (upd H a (.lst (xs ++ zs)))
theorem mt_extT : MtR X "list.extend" (rExtT X.K) := fun pins s σ H v vs u us Q I r1 r2 ⟨a, t, xs, zs, e1, e2, ha, ht, hl, k⟩ => by
  subst e1 e2
  cases r1
  rcases r2.one with ⟨_, rfl, ⟨⟩⟩
  rcases I.lstM ha with ⟨l1, ys, n, rx, lx, gx⟩
  rcases I.tuple ht with ⟨ws, rz, ⟨⟨oc, odd, oda, osl⟩, gz, ec, n2, ed⟩, _⟩
  cases ec
  cases ed
  have lz := rz.length
  have b1 : ys.toArray.size ≤ sizeLine := by simpa [← lx] using l1
  have b2 : ys.toArray.size + ws.toArray.size ≤ sizeLine := by simpa [← lx, ← lz] using hl
  exact call_meets PySem.F.slot_list_extend ⟨_, gx, rfl⟩ PySem.F.entry_list_extend (PySem.F.args_list_extend_2 _ _) (ext_tup b1 b2) ⟨gx, gz, .non, _, I.lset (its' := ys ++ ws) ha gx (List.append_toArray ..) (rx.append rz) (by simpa using hl), rfl, k⟩
def extendF : List D → List D → Option (List D) := fun xs ds => match ds with | [.tup zs] => if xs.length + zs.length ≤ sizeLine then some (xs ++ zs) else none | _ => none
theorem r_extend {K : PySem.W.Frag} : ∀ (φ : Nat → Option Addr) (Hf H : Hp) (a : Addr) (xs ds ys : List D) (vs us : List V) (Q : VK), Same Hf H → H a = some (.lst vs) → RpAll K φ Hf xs vs → RpAll K φ Hf ds us → extendF xs ds = some ys → (∀ z ws, RpAll K φ Hf ys ws → Q z (upd H a (.lst ws))) → rExtT K (.ref a) us H Q :=
  fun φ Hf H a xs ds ys vs us Q s h r q e k => by
    unfold extendF at e
    split at e
    · rename_i zs
      split at e
      · rename_i hl
        cases e
        cases q with
        | cons q t =>
          cases t
          cases q with
          | tup q1 q2 => exact ⟨a, _, vs, _, rfl, rfl, h, SqT_same s q1, by rw [← r.length, ← q2.length]; exact hl, k _ _ (r.append q2)⟩
      · cases e
    · cases e
end
end FL
namespace FL
open PySem
/-! ### a mirror run by hand, a statement at a time -/
section
variable {F : Env → Option D} {G A B : Env → Option Out} {i : Nat} {ρ ρ' : Env} {C : Env → Option Bool} {d : D}
theorem seqSet_eq (h : F ρ = F ρ') (k : ∀ d, G (ρ.set i (some d)) = G (ρ'.set i (some d))) : sSeq (sSet i F) G ρ = sSeq (sSet i F) G ρ' := by
  unfold sSeq sSet
  rw [h]
  cases F ρ' with
  | none => rfl
  | some d => exact k d
theorem seqIf_eq (h : C ρ = C ρ') (k1 : sSeq A G ρ = sSeq A G ρ') (k2 : sSeq B G ρ = sSeq B G ρ') : sSeq (sIf C A B) G ρ = sSeq (sIf C A B) G ρ' := by
  unfold sSeq sIf at *
  rw [h]
  cases C ρ' with
  | none => rfl
  | some b => cases b with
    | true => exact k1
    | false => exact k2
theorem forget_eq {vs : List Nat} (h : G (wipeE ρ vs) = G (wipeE ρ' vs)) : sForget vs G ρ = sForget vs G ρ' := h
theorem runD_eq {fr : Bool} {N n : Nat} {ds ds' : List D} (h : G (envOf N n ds) = G (envOf N n ds')) : runD fr N n G ds = runD fr N n G ds' := by
  unfold runD
  rw [h]
theorem runD_rt {fr : Bool} {N n : Nat} {ds : List D} (h : G (envOf N n ds) = some (.rt d)) : runD fr N n G ds = some d := by
  unfold runD
  rw [h]
theorem seq_set {o : Option Out} (h : F ρ = some d) (k : G (ρ.set i (some d)) = o) : sSeq (sSet i F) G ρ = o := by
  unfold sSeq sSet
  rw [h]; exact k
theorem seq_t {o : Option Out} (h : C ρ = some true) (k : sSeq A G ρ = o) : sSeq (sIf C A B) G ρ = o := by
  unfold sSeq sIf at *
  rw [h]; exact k
theorem seq_f {o : Option Out} (h : C ρ = some false) (k : sSeq B G ρ = o) : sSeq (sIf C A B) G ρ = o := by
  unfold sSeq sIf at *
  rw [h]; exact k
theorem seq_if {o : Option Out} {b : Bool} (h : C ρ = some b) (k1 : b = true → sSeq A G ρ = o) (k2 : b = false → sSeq B G ρ = o) : sSeq (sIf C A B) G ρ = o := by
  cases b with
  | true => exact seq_t h (k1 rfl)
  | false => exact seq_f h (k2 rfl)
theorem seq_as {o : Option Out} (k : sSeq A (sSeq B G) ρ = o) : sSeq (sSeq A B) G ρ = o := by
  unfold sSeq at *
  cases h : A ρ with
  | none => rw [h] at k; simpa using k
  | some z => cases z <;> (rw [h] at k; simpa using k)
theorem seq_nil {o : Option Out} (k : G ρ = o) : sSeq sNil G ρ = o := k
theorem seq_fg {vs : List Nat} {o : Option Out} (k : G (wipeE ρ vs) = o) : sForget vs G ρ = o := k
theorem seq_ret (h : F ρ = some d) : sSeq (sRet F) G ρ = some (.rt d) := by
  unfold sSeq sRet
  rw [h]
theorem seq_for {Fi : Env → Option (List D)} {g : D → Env → Option Env} {ds : List D} {o : Option Out} (h : Fi ρ = some ds) (k : loopF g B ds ρ = some (.nx ρ')) (k2 : G ρ' = o) : sSeq (sFor Fi g B) G ρ = o := by
  unfold sSeq sFor
  rw [h]
  simp only [k]
  exact k2
theorem seq_asg {g : D → Env → Option Env} {o : Option Out} (h : F ρ = some d) (hg : g d ρ = some ρ') (k : G ρ' = o) : sSeq (sAsg g F) G ρ = o := by
  unfold sSeq sAsg
  rw [h]
  simp only [hg]
  exact k
theorem not_val {C : Env → Option Bool} {ρ : Env} {b : Bool} (h : C ρ = some b) : tNot C ρ = some (!b) := by
  unfold tNot
  rw [h]
theorem loop_nx {g : D → Env → Option Env} {I : Nat → Env → Prop} : ∀ (ds : List D) (j : Nat) (ρ : Env), (∀ (i : Nat) (ρ : Env) (d : D), I (j + i) ρ → ds[i]? = some d → ∃ ρ1 ρ2, g d ρ = some ρ1 ∧ B ρ1 = some (.nx ρ2) ∧ I (j + i + 1) ρ2) → I j ρ → ∃ ρ', loopF g B ds ρ = some (.nx ρ') ∧ I (j + ds.length) ρ'
  | [], j, ρ, _, h => ⟨ρ, rfl, h⟩
  | d :: ds, j, ρ, hs, h => by
    obtain ⟨ρ1, ρ2, e1, e2, h2⟩ := hs 0 ρ d h rfl
    obtain ⟨ρ', e3, h3⟩ := loop_nx ds (j + 1) ρ2 (fun i ρ d hi hd => by
      have e : j + 1 + i = j + (i + 1) := by omega
      rw [e] at hi ⊢
      exact hs (i + 1) ρ d hi (by simpa using hd)) h2
    refine ⟨ρ', ?_, by rw [List.length_cons, show j + (ds.length + 1) = j + 1 + ds.length by omega]; exact h3⟩
    unfold loopF
    rw [e1]
    simp only [e2]
    exact e3
theorem rngD_get {lo : Int} {n i : Nat} {d : D} (h : (rngD lo n)[i]? = some d) : i < n ∧ d = .int (lo + (i : Int)) := by
  unfold rngD at h
  rw [List.getElem?_map] at h
  cases hq : (List.range n)[i]? with
  | none => rw [hq] at h; cases h
  | some c =>
    rw [hq] at h; cases h
    obtain ⟨h1, h2⟩ := List.getElem?_eq_some_iff.mp hq
    have h3 : i < n := by simpa using h1
    have h4 : c = i := by simpa using h2.symm
    subst h4
    exact ⟨h3, rfl⟩
theorem rngD_len {lo : Int} {n : Nat} : (rngD lo n).length = n := by simp [rngD]
theorem atI_nat {α : Type} {xs : List α} {k : Nat} {x : α} (h : xs[k]? = some x) : L2.atI xs (k : Int) = some x := by
  have hk := (List.getElem?_eq_some_iff.mp h).1
  unfold L2.atI L2.ixN
  rw [if_pos (by omega), if_pos (by omega)]
  simpa using h
end

theorem eL_val {f : List D → Option D} {Fs : Env → Option (List D)} {ρ : Env} {ds : List D} {o : Option D} (h : Fs ρ = some ds) (k : f ds = o) : eL f Fs ρ = o := by
  unfold eL
  rw [h]; exact k
theorem e2_val {f : D → D → Option D} {F G : Env → Option D} {ρ : Env} {x y : D} {o : Option D} (h1 : F ρ = some x) (h2 : G ρ = some y) (k : f x y = o) : e2 f F G ρ = o := by
  unfold e2
  rw [h1, h2]; exact k
theorem aCons_val {F : Env → Option D} {G : Env → Option (List D)} {ρ : Env} {d : D} {ds : List D} (h1 : F ρ = some d) (h2 : G ρ = some ds) : aCons F G ρ = some (d :: ds) := by
  unfold aCons
  rw [h1, h2]
theorem mL_val {n : Nat} {m : List D → Option D} {ds : List D} {o : Option D} (h : ds.length = n) (k : m ds = o) : mL n m ds = o := by
  unfold mL
  rw [if_pos h]; exact k
theorem tB_val {f : D → Option Bool} {F : Env → Option D} {ρ : Env} {x : D} {o : Option Bool} (h1 : F ρ = some x) (k : f x = o) : tB f F ρ = o := by
  unfold tB
  rw [h1]; exact k
theorem mod_cases5 (z : Int) : z % 5 = 0 ∨ z % 5 = 1 ∨ z % 5 = 2 ∨ z % 5 = 3 ∨ z % 5 = 4 := by omega

/-! ### are two trees the same: the law's own -/
def isSameG (r : List D → Option D) : FL.Env → Option Out :=
    (sSeq (sIf (tOr (tB truD (e1 (isiD "tuple") (eVar 1))) (tB truD (e1 (isiD "list") (eVar 1))))
      (sSeq (sIf (tAnd (tB truD (e1 (isiD "tuple") (eVar 1))) (tNot (tB truD (e1 (isiD "tuple") (eVar 0)))))
      (sSeq (sRet (eC (.bl false)))
    sNil)
      sNil)
    (sSeq (sIf (tAnd (tB truD (e1 (isiD "list") (eVar 1))) (tNot (tB truD (e1 (isiD "list") (eVar 0)))))
      (sSeq (sRet (eC (.bl false)))
    sNil)
      sNil)
    (sSeq (sIf (tB blD (e2 neD (eL lenD (aCons (eVar 0) aNil)) (eL lenD (aCons (eVar 1) aNil))))
      (sSeq (sRet (eC (.bl false)))
    sNil)
      sNil)
    (sSeq (sFor (iRng1 (aCons (eL lenD (aCons (eVar 1) aNil)) aNil)) (gSet 2)
      (sSeq (sIf (tNot (tB truD (eL (mL 2 r) (aCons (e2 ixD (eVar 0) (eVar 2)) (aCons (e2 ixD (eVar 1) (eVar 2)) aNil)))))
      (sSeq (sRet (eC (.bl false)))
    sNil)
      sNil)
    sNil))
    (sSeq (sRet (eC (.bl true)))
    sNil)))))
      sNil)
    (sForget [2] (sSeq (sIf (tB blD (e2 isD (eVar 1) (eC .non)))
      (sSeq (sRet (e2 isD (eVar 0) (eC .non)))
    sNil)
      sNil)
    (sSeq (sIf (tB truD (e1 (isiD "bool") (eVar 1)))
      (sSeq (sRet (eAnd (e1 (isiD "bool") (eVar 0)) (e2 eqD (eVar 0) (eVar 1))))
    sNil)
      sNil)
    (sSeq (sIf (tB truD (e1 (isiD "int") (eVar 1)))
      (sSeq (sRet (eAnd (e1 (isiD "int") (eVar 0)) (eAnd (e1 notD (e1 (isiD "bool") (eVar 0))) (e2 eqD (eVar 0) (eVar 1)))))
    sNil)
      sNil)
    (sSeq (sRet (eAnd (e1 (isiD "str") (eVar 0)) (e2 eqD (eVar 0) (eVar 1))))
    sNil))))))
def isSame : Nat → List D → Option D
  | 0 => fun _ => none
  | n + 1 => runD false 3 2 (isSameG (isSame n))
/-- a tree that is not too deep or too long -/
def okS : Nat → D → Bool
  | 0, _ => false
  | _ + 1, .obj _ => false
  | _ + 1, .ins _ _ _ => false
  | _ + 1, .dct _ _ => false
  | n + 1, .tup xs => decide (xs.length < 1000000) && xs.all (okS n)
  | n + 1, .lst xs => decide (xs.length < 1000000) && xs.all (okS n)
  | n + 1, .klst xs => decide (xs.length < 1000000) && xs.all (okS n)
  | _ + 1, _ => true
theorem sEq_self (x : Str) : sEq x x = true := by simp [sEq]
theorem isSame_seq {n : Nat} {d : D} {xs : List D} (hx : seqD d = some xs) (hlen : xs.length < 1000000) (ih : ∀ x ∈ xs, isSame n [x, x] = some (.bl true))
    (c1 : tOr (tB truD (e1 (isiD "tuple") (eVar 1))) (tB truD (e1 (isiD "list") (eVar 1))) [some d, some d, none] = some true)
    (c2 : tAnd (tB truD (e1 (isiD "tuple") (eVar 1))) (tNot (tB truD (e1 (isiD "tuple") (eVar 0)))) [some d, some d, none] = some false)
    (c3 : tAnd (tB truD (e1 (isiD "list") (eVar 1))) (tNot (tB truD (e1 (isiD "list") (eVar 0)))) [some d, some d, none] = some false)
    (hix : ∀ k : Nat, ixD d (.int (k : Int)) = L2.atI xs (k : Int)) : isSame (n + 1) [d, d] = some (.bl true) := by
  have hl : lenD [d] = some (.int xs.length) := by unfold lenD; simp [hx]
  refine runD_rt ?_
  show isSameG (isSame n) [some d, some d, none] = _
  unfold isSameG
  refine seq_t c1 (seq_as (seq_f c2 (seq_nil (seq_as (seq_f c3 (seq_nil (seq_as (seq_f ?_ (seq_nil (seq_as ?_)))))))))) 
  · simp [tB, e2, eL, aCons, aNil, eVar, hl, neD, eqB, scEq, blD]
  · have hr : iRng1 (aCons (eL lenD (aCons (eVar 1) aNil)) aNil) [some d, some d, none] = some (rngD 0 xs.length) := by
      have hb : -(2 ^ 62 : Int) ≤ (xs.length : Int) ∧ (xs.length : Int) < 2 ^ 62 := by omega
      simp [iRng1, aCons, aNil, eL, eVar, hl]
      omega
    obtain ⟨ρ', e1', h'⟩ := loop_nx (g := gSet 2) (B := (sSeq (sIf (tNot (tB truD (eL (mL 2 (isSame n)) (aCons (e2 ixD (eVar 0) (eVar 2)) (aCons (e2 ixD (eVar 1) (eVar 2)) aNil))))) (sSeq (sRet (eC (.bl false))) sNil) sNil) sNil))
      (I := fun _ ρ => ∃ z, ρ = [some d, some d, z]) (rngD 0 xs.length) 0 [some d, some d, none] (fun i ρ x hI hd => by
        obtain ⟨z, rfl⟩ := hI
        obtain ⟨hi, rfl⟩ := rngD_get hd
        have hg : xs[i]? = some xs[i] := List.getElem?_eq_getElem hi
        have ha := atI_nat hg
        refine ⟨_, [some d, some d, some (.int (0 + (i : Int)))], rfl, ?_, _, rfl⟩
        have ht : tNot (tB truD (eL (mL 2 (isSame n)) (aCons (e2 ixD (eVar 0) (eVar 2)) (aCons (e2 ixD (eVar 1) (eVar 2)) aNil)))) [some d, some d, some (.int (0 + (i : Int)))] = some false := by
          have hz : (0 + (i : Int)) = (i : Int) := by omega
          simp only [tNot, tB, eL, aCons, aNil, e2, eVar, List.getElem?_cons_zero, List.getElem?_cons_succ, hz, hix, ha, mL, List.length, Nat.zero_add, Nat.reduceAdd, ↓reduceIte, ih _ (List.getElem_mem hi), truD, Bool.not_true]
        exact seq_f ht rfl) ⟨none, rfl⟩
    obtain ⟨z, rfl⟩ := h'
    exact seq_for hr e1' (seq_as (seq_ret rfl))
theorem isSame_refl : ∀ (n : Nat) (d : D), okS n d = true → isSame n [d, d] = some (.bl true)
  | 0, _, h => by cases h
  | n + 1, .non, _ => by kernel_rfl
  | n + 1, .bl b, _ => by cases b <;> kernel_rfl
  | n + 1, .int i, _ => by
    have e : isSame (n + 1) [.int i, .int i] = some (.bl (i == i)) := by kernel_rfl
    rw [e]; simp
  | n + 1, .str x, _ => by
    have e : isSame (n + 1) [.str x, .str x] = some (.bl (sEq x x)) := by kernel_rfl
    rw [e, sEq_self]
  | n + 1, .tup xs, h => by
    have h' : xs.length < 1000000 ∧ ∀ x ∈ xs, okS n x = true := by simpa [okS] using h
    exact isSame_seq (xs := xs) rfl h'.1 (fun x hx => isSame_refl n x (h'.2 x hx)) (by kernel_rfl) (by kernel_rfl) (by kernel_rfl) (fun _ => rfl)
  | n + 1, .lst xs, h => by
    have h' : xs.length < 1000000 ∧ ∀ x ∈ xs, okS n x = true := by simpa [okS] using h
    exact isSame_seq (xs := xs) rfl h'.1 (fun x hx => isSame_refl n x (h'.2 x hx)) (by kernel_rfl) (by kernel_rfl) (by kernel_rfl) (fun _ => rfl)
  | n + 1, .klst xs, h => by
    have h' : xs.length < 1000000 ∧ ∀ x ∈ xs, okS n x = true := by simpa [okS] using h
    exact isSame_seq (xs := xs) rfl h'.1 (fun x hx => isSame_refl n x (h'.2 x hx)) (by kernel_rfl) (by kernel_rfl) (by kernel_rfl) (fun _ => rfl)
  | n + 1, .obj i, h => by cases h
  | n + 1, .ins c fs xs, h => by cases h
  | n + 1, .dct fs xs, h => by cases h

/-! ### the script's cells -/
def cellG : FL.Env → Option Out :=
    (sSeq (sIf (tB blD (e2 ltD (eVar 1) (eL lenD (aCons (eVar 0) aNil))))
      (sSeq (sRet (eL intD (aCons (e2 ixD (eVar 0) (eVar 1)) aNil)))
    sNil)
      sNil)
    (sForget [0, 1] (sSeq (sRet (eC (.int 0)))
    sNil)))
def cellM : List D → Option D := runD false 2 2 cellG
def scr (ns : List Int) : D := .klst (ns.map D.int)
theorem cell_eq (ns : List Int) (k : Nat) : cellM [scr ns, .int k] = some (.int (ns.getD k 0)) := by
  have hl : (ns.map D.int).length = ns.length := List.length_map ..
  by_cases h : k < ns.length
  · have h2 : (k : Int) < (ns.length : Int) := by omega
    have h3 : L2.atI (ns.map D.int) (k : Int) = some (.int (ns.getD k 0)) := atI_nat (by simp [h])
    simp [scr, cellM, runD, cellG, envOf, sSeq, sIf, tB, e2, ltD, eL, lenD, aCons, aNil, eVar, seqD, sRet, intD, ixD, blD, h2, h3]
  · have h2 : ¬ (k : Int) < (ns.length : Int) := by omega
    have h4 : ns.getD k 0 = 0 := by simp [Nat.le_of_not_lt h]
    rw [h4]
    simp [scr, cellM, runD, cellG, envOf, sSeq, sIf, tB, e2, ltD, eL, lenD, aCons, aNil, eVar, seqD, sRet, intD, ixD, blD, h2, sNil, sForget, wipeE, eC]

/-! ### a drawn standing -/
def spotG : FL.Env → Option Out :=
    (sSeq (sSet 1 (e2 modD (eL intD (aCons (eVar 0) aNil)) (eC (.int 200))))
    (sForget [0] (sSeq (sSet 2 (eL tupD (aCons (e2 modD (e2 fdivD (eVar 1) (eC (.int 2))) (eC (.int 10))) (aCons (e2 eqD (e2 modD (e2 fdivD (eVar 1) (eC (.int 20))) (eC (.int 2))) (eC (.int 1))) (aCons (e2 eqD (e2 modD (e2 fdivD (eVar 1) (eC (.int 40))) (eC (.int 2))) (eC (.int 1))) aNil)))))
    (sSeq (sIf (tB blD (e2 eqD (e2 fdivD (eVar 1) (eC (.int 80))) (eC (.int 2))))
      (sSeq (sSet 2 (eC .non))
    sNil)
      sNil)
    (sSeq (sRet (eL tupD (aCons (eVar 2) (aCons (e2 eqD (e2 modD (eVar 1) (eC (.int 2))) (eC (.int 1))) aNil))))
    sNil)))))
def spotM : List D → Option D := runD false 3 1 spotG
/-- a field or None -/
def IsFld (F : D) : Prop := F = .non ∨ ∃ (v : Int) (c g : Bool), F = .tup [.int v, .bl c, .bl g] ∧ 0 ≤ v ∧ v < 10
theorem spot_form (z : Int) : ∃ (F : D) (s : Bool), spotM [.int z] = some (.tup [F, .bl s]) ∧ IsFld F := by
  cases hb : (z % 200 / 80 == 2) with
  | true =>
    refine ⟨.non, z % 200 % 2 == 1, runD_rt ?_, .inl rfl⟩
    exact seq_set (d := .int (z % 200)) (by kernel_rfl) (seq_fg (seq_set (d := .tup [.int (z % 200 / 2 % 10), .bl (z % 200 / 20 % 2 == 1), .bl (z % 200 / 40 % 2 == 1)]) (by kernel_rfl) (seq_t (hb ▸ (by kernel_rfl)) (seq_as (seq_set (d := .non) (by kernel_rfl) (seq_nil (seq_ret (by kernel_rfl))))))))
  | false =>
    refine ⟨.tup [.int (z % 200 / 2 % 10), .bl (z % 200 / 20 % 2 == 1), .bl (z % 200 / 40 % 2 == 1)], z % 200 % 2 == 1, runD_rt ?_, .inr ⟨_, _, _, rfl, by omega, by omega⟩⟩
    exact seq_set (d := .int (z % 200)) (by kernel_rfl) (seq_fg (seq_set (d := .tup [.int (z % 200 / 2 % 10), .bl (z % 200 / 20 % 2 == 1), .bl (z % 200 / 40 % 2 == 1)]) (by kernel_rfl) (seq_f (hb ▸ (by kernel_rfl)) (seq_nil (seq_ret (by kernel_rfl))))))
theorem label_form (z : Int) : ∃ L : Str, ixD (.str "abcdefgh") (.int (z % 8)) = some (.str L) ∧ L ∈ (["a", "b", "c", "d", "e", "f", "g", "h"] : List String).map Str.ofString := by
  have h1 := Int.emod_nonneg z (show (8 : Int) ≠ 0 by decide)
  have h2 := Int.emod_lt_of_pos z (show (0 : Int) < 8 by decide)
  obtain ⟨k, hk⟩ : ∃ k : Nat, z % 8 = (k : Int) ∧ k < 8 := ⟨(z % 8).toNat, by omega, by omega⟩
  have all : ∀ k : Fin 8, ∃ L ∈ (["a", "b", "c", "d", "e", "f", "g", "h"] : List String).map Str.ofString, ixD (.str "abcdefgh") (.int (k.val : Int)) = some (.str L) := by
    intro k
    match k with
    | 0 => exact ⟨Str.ofString "a", by simp, by kernel_rfl⟩
    | 1 => exact ⟨Str.ofString "b", by simp, by kernel_rfl⟩
    | 2 => exact ⟨Str.ofString "c", by simp, by kernel_rfl⟩
    | 3 => exact ⟨Str.ofString "d", by simp, by kernel_rfl⟩
    | 4 => exact ⟨Str.ofString "e", by simp, by kernel_rfl⟩
    | 5 => exact ⟨Str.ofString "f", by simp, by kernel_rfl⟩
    | 6 => exact ⟨Str.ofString "g", by simp, by kernel_rfl⟩
    | 7 => exact ⟨Str.ofString "h", by simp, by kernel_rfl⟩
  obtain ⟨L, h3, h4⟩ := all ⟨k, hk.2⟩
  exact ⟨L, by rw [hk.1]; exact h4, h3⟩
end FL
namespace FL
open PySem
section
variable {F G : Env → Option D} {ρ : Env} {i j : Int}
theorem int_v (h : F ρ = some (.int i)) : eL intD (aCons F aNil) ρ = some (.int i) := eL_val (aCons_val h rfl) rfl
theorem mod_v (c : Int) (hc : 0 < c) (h : F ρ = some (.int i)) : e2 modD F (eC (.int c)) ρ = some (.int (i % c)) := e2_val h rfl (by unfold modD; simp [hc])
theorem fdiv_v (c : Int) (hc : 0 < c ∧ c < 1073741824) (h : F ρ = some (.int i)) : e2 fdivD F (eC (.int c)) ρ = some (.int (i / c)) := e2_val h rfl (by unfold fdivD; simp [hc])
theorem add_v (h : F ρ = some (.int i)) (h2 : G ρ = some (.int j)) : e2 addD F G ρ = some (.int (i + j)) := e2_val h h2 rfl
theorem sub_v (h : F ρ = some (.int i)) (h2 : G ρ = some (.int j)) : e2 subD F G ρ = some (.int (i - j)) := e2_val h h2 rfl
theorem mul_v (h : F ρ = some (.int i)) (h2 : G ρ = some (.int j)) (hb : (-(2 ^ 64) < i ∧ i < 2 ^ 64) ∨ (-(2 ^ 64) < j ∧ j < 2 ^ 64)) : e2 mulD F G ρ = some (.int (i * j)) := e2_val h h2 (by show (if _ then _ else _) = _; rw [if_pos hb])
theorem gt_v (h : F ρ = some (.int i)) (h2 : G ρ = some (.int j)) : tB blD (e2 gtD F G) ρ = some (decide (j < i)) := tB_val (e2_val h h2 rfl) rfl
theorem ge_v (h : F ρ = some (.int i)) (h2 : G ρ = some (.int j)) : tB blD (e2 geD F G) ρ = some (decide (j ≤ i)) := tB_val (e2_val h h2 rfl) rfl
theorem eq_v (h : F ρ = some (.int i)) (h2 : G ρ = some (.int j)) : e2 eqD F G ρ = some (.bl (i == j)) := e2_val h h2 rfl
theorem teq_v (h : F ρ = some (.int i)) (h2 : G ρ = some (.int j)) : tB blD (e2 eqD F G) ρ = some (i == j) := tB_val (eq_v h h2) rfl
theorem var_v {k : Nat} {d : D} (h : ρ[k]? = some (some d)) : eVar k ρ = some d := by unfold eVar; rw [h]
theorem seq_mut {f : List D → List D → Option (List D)} {Fs : Env → Option (List D)} {k : Nat} {xs ys ds : List D} {G : Env → Option Out} {o : Option Out} (h1 : Fs ρ = some ds) (h2 : ρ[k]? = some (some (.lst xs))) (h3 : f xs ds = some ys) (kk : G (ρ.set k (some (.lst ys))) = o) : sSeq (sMut k f Fs) G ρ = o := by
  unfold sSeq sMut
  rw [h1, var_v h2]
  simp only [h3]
  exact kk
end
/-! ### the draws of a cell -/
def drawsG : FL.Env → Option Out :=
    (sSeq (sSet 2 (eL lstD aNil))
    (sSeq (sSet 3 (eC (.int 0)))
    (sSeq (sIf (tB blD (e2 geD (eVar 0) (e2 powD (eC (.int 10)) (eC (.int 18)))))
      (sSeq (sSet 3 (e2 subD (eVar 0) (e2 powD (eC (.int 10)) (eC (.int 18)))))
    sNil)
      sNil)
    (sSeq (sFor (iRng1 (aCons (eVar 1) aNil)) (gSet 4)
      (sSeq (sSet 5 (e2 modD (eL intD (aCons (e2 addD (e2 addD (eVar 0) (e2 mulD (eC (.int 7919)) (eVar 4))) (eC (.int 13))) aNil)) (eC (.int 2147483647))))
    (sSeq (sSet 5 (e2 modD (eL intD (aCons (e2 addD (e2 mulD (eVar 5) (eVar 5)) (e2 mulD (eC (.int 48271)) (eVar 4))) aNil)) (eC (.int 2147483629))))
    (sSeq (sSet 5 (e2 modD (eL intD (aCons (e2 addD (e2 mulD (eVar 5) (eC (.int 69621))) (e2 fdivD (eVar 5) (eC (.int 1009)))) aNil)) (eC (.int 1000003))))
    (sSeq (sIf (tB blD (e2 gtD (eVar 3) (eC (.int 0))))
      (sSeq (sSet 5 (e2 modD (eL intD (aCons (eVar 3) aNil)) (eC (.int 1000003))))
    (sSeq (sSet 3 (e2 fdivD (eVar 3) (eC (.int 1000003))))
    sNil))
      sNil)
    (sSeq (sMut 2 appendF (aCons (eVar 5) aNil))
    sNil))))))
    (sForget [0, 1, 3, 4, 5] (sSeq (sRet (eVar 2))
    sNil))))))
def drawsM : List D → Option D := runD false 6 2 drawsG
theorem draws_turn {z : Int} {n : D} {acc : List Int} {rest k : Int} {x : Option D} (hacc : acc.length < 1000) :
    ∃ (r' m' : Int), 0 ≤ m' ∧ m' < 1000003 ∧
      (sSeq (sSet 5 (e2 modD (eL intD (aCons (e2 addD (e2 addD (eVar 0) (e2 mulD (eC (.int 7919)) (eVar 4))) (eC (.int 13))) aNil)) (eC (.int 2147483647))))
    (sSeq (sSet 5 (e2 modD (eL intD (aCons (e2 addD (e2 mulD (eVar 5) (eVar 5)) (e2 mulD (eC (.int 48271)) (eVar 4))) aNil)) (eC (.int 2147483629))))
    (sSeq (sSet 5 (e2 modD (eL intD (aCons (e2 addD (e2 mulD (eVar 5) (eC (.int 69621))) (e2 fdivD (eVar 5) (eC (.int 1009)))) aNil)) (eC (.int 1000003))))
    (sSeq (sIf (tB blD (e2 gtD (eVar 3) (eC (.int 0))))
      (sSeq (sSet 5 (e2 modD (eL intD (aCons (eVar 3) aNil)) (eC (.int 1000003))))
    (sSeq (sSet 3 (e2 fdivD (eVar 3) (eC (.int 1000003))))
    sNil))
      sNil)
    (sSeq (sMut 2 appendF (aCons (eVar 5) aNil))
    sNil))))) [some (.int z), some n, some (.lst (acc.map D.int)), some (.int rest), some (.int k), x]
      = some (.nx [some (.int z), some n, some (.lst ((acc ++ [m']).map D.int)), some (.int r'), some (.int k), some (.int m')]) := by
  generalize e1 : (z + 7919 * k + 13) % 2147483647 = m1
  have b1 : 0 ≤ m1 ∧ m1 < 2147483647 := by subst e1; exact ⟨Int.emod_nonneg _ (by decide), Int.emod_lt_of_pos _ (by decide)⟩
  generalize e2' : (m1 * m1 + 48271 * k) % 2147483629 = m2
  have b2 : 0 ≤ m2 ∧ m2 < 2147483629 := by subst e2'; exact ⟨Int.emod_nonneg _ (by decide), Int.emod_lt_of_pos _ (by decide)⟩
  generalize e3 : (m2 * 69621 + m2 / 1009) % 1000003 = m3
  have b3 : 0 ≤ m3 ∧ m3 < 1000003 := by subst e3; exact ⟨Int.emod_nonneg _ (by decide), Int.emod_lt_of_pos _ (by decide)⟩
  have app : ∀ m : Int, appendF (acc.map D.int) [.int m] = some ((acc ++ [m]).map D.int) := fun m => by
    show (if (acc.map D.int).length < sizeLine then some (acc.map D.int ++ [D.int m]) else none) = _
    rw [if_pos (by rw [List.length_map, PySem.sizeLine_eq]; omega)]
    simp
  by_cases hr : 0 < rest
  · refine ⟨rest / 1000003, rest % 1000003, Int.emod_nonneg _ (by decide), Int.emod_lt_of_pos _ (by decide), ?_⟩
    refine seq_set (d := .int m1) (by subst e1; exact mod_v _ (by decide) (int_v (add_v (add_v rfl (mul_v rfl rfl (.inl ⟨by decide, by decide⟩))) rfl))) ?_
    refine seq_set (d := .int m2) (by subst e2'; exact mod_v _ (by decide) (int_v (add_v (mul_v rfl rfl (.inl ⟨by omega, by omega⟩)) (mul_v rfl rfl (.inl ⟨by decide, by decide⟩))))) ?_
    refine seq_set (d := .int m3) (by subst e3; exact mod_v _ (by decide) (int_v (add_v (mul_v rfl rfl (.inl ⟨by omega, by omega⟩)) (fdiv_v _ (by decide) rfl)))) ?_
    refine seq_t ((gt_v rfl rfl).trans (by simp [hr])) ?_
    refine seq_as (seq_set (d := .int (rest % 1000003)) (mod_v _ (by decide) (int_v rfl)) (seq_as (seq_set (d := .int (rest / 1000003)) (fdiv_v _ (by decide) rfl) (seq_nil ?_))))
    exact seq_mut (ds := [.int (rest % 1000003)]) (aCons_val rfl rfl) rfl (app _) rfl
  · refine ⟨rest, m3, b3.1, b3.2, ?_⟩
    refine seq_set (d := .int m1) (by subst e1; exact mod_v _ (by decide) (int_v (add_v (add_v rfl (mul_v rfl rfl (.inl ⟨by decide, by decide⟩))) rfl))) ?_
    refine seq_set (d := .int m2) (by subst e2'; exact mod_v _ (by decide) (int_v (add_v (mul_v rfl rfl (.inl ⟨by omega, by omega⟩)) (mul_v rfl rfl (.inl ⟨by decide, by decide⟩))))) ?_
    refine seq_set (d := .int m3) (by subst e3; exact mod_v _ (by decide) (int_v (add_v (mul_v rfl rfl (.inl ⟨by omega, by omega⟩)) (fdiv_v _ (by decide) rfl)))) ?_
    refine seq_f ((gt_v rfl rfl).trans (by simp [hr])) (seq_nil ?_)
    exact seq_mut (ds := [.int m3]) (aCons_val rfl rfl) rfl (app _) rfl
theorem draws_form (z : Int) (n : Nat) (hn : n < 1000) : ∃ ds : List Int, drawsM [.int z, .int (n : Int)] = some (.lst (ds.map D.int)) ∧ ds.length = n ∧ ∀ d ∈ ds, 0 ≤ d ∧ d < 1000003 := by
  have loop : ∀ rest : Int, ∃ (ds : List Int) (ρ' : FL.Env), loopF (gSet 4) (sSeq (sSet 5 (e2 modD (eL intD (aCons (e2 addD (e2 addD (eVar 0) (e2 mulD (eC (.int 7919)) (eVar 4))) (eC (.int 13))) aNil)) (eC (.int 2147483647))))
    (sSeq (sSet 5 (e2 modD (eL intD (aCons (e2 addD (e2 mulD (eVar 5) (eVar 5)) (e2 mulD (eC (.int 48271)) (eVar 4))) aNil)) (eC (.int 2147483629))))
    (sSeq (sSet 5 (e2 modD (eL intD (aCons (e2 addD (e2 mulD (eVar 5) (eC (.int 69621))) (e2 fdivD (eVar 5) (eC (.int 1009)))) aNil)) (eC (.int 1000003))))
    (sSeq (sIf (tB blD (e2 gtD (eVar 3) (eC (.int 0))))
      (sSeq (sSet 5 (e2 modD (eL intD (aCons (eVar 3) aNil)) (eC (.int 1000003))))
    (sSeq (sSet 3 (e2 fdivD (eVar 3) (eC (.int 1000003))))
    sNil))
      sNil)
    (sSeq (sMut 2 appendF (aCons (eVar 5) aNil))
    sNil))))) (rngD 0 n) [some (.int z), some (.int (n : Int)), some (.lst []), some (.int rest), none, none] = some (.nx ρ') ∧ ds.length = n ∧ (∀ d ∈ ds, 0 ≤ d ∧ d < 1000003) ∧ ∃ r x4 x5, ρ' = [some (.int z), some (.int (n : Int)), some (.lst (ds.map D.int)), some (.int r), x4, x5] := fun rest => by
    obtain ⟨ρ', e, h⟩ := loop_nx (g := gSet 4) (I := fun i ρ => i ≤ n ∧ ∃ (acc : List Int) (r : Int) (x4 x5 : Option D), ρ = [some (.int z), some (.int (n : Int)), some (.lst (acc.map D.int)), some (.int r), x4, x5] ∧ acc.length = i ∧ ∀ d ∈ acc, 0 ≤ d ∧ d < 1000003) (rngD 0 n) 0 [some (.int z), some (.int (n : Int)), some (.lst []), some (.int rest), none, none]
      (fun i ρ d hI hd => by
        obtain ⟨hi0, acc, r, x4, x5, rfl, hl, hb⟩ := hI
        obtain ⟨hi, rfl⟩ := rngD_get hd
        obtain ⟨r', m', h1, h2, h3⟩ := draws_turn (z := z) (n := .int (n : Int)) (acc := acc) (rest := r) (k := 0 + (i : Int)) (x := x5) (by omega)
        refine ⟨_, _, rfl, h3, by omega, acc ++ [m'], r', _, _, rfl, by rw [List.length_append, hl]; simp, fun d hd => ?_⟩
        rcases List.mem_append.mp hd with q | q
        · exact hb d q
        · have : d = m' := by simpa using q
          subst this; exact ⟨h1, h2⟩) ⟨Nat.zero_le _, [], rest, none, none, rfl, rfl, fun _ h => absurd h (by simp)⟩
    obtain ⟨_, acc, r, x4, x5, rfl, hl, hb⟩ := h
    rw [rngD_len, Nat.zero_add] at hl
    exact ⟨acc, _, e, hl, hb, r, x4, x5, rfl⟩
  have hr : iRng1 (aCons (eVar 1) aNil) = fun ρ => iRng1 (aCons (eVar 1) aNil) ρ := rfl
  have rng : ∀ rest : Int, iRng1 (aCons (eVar 1) aNil) [some (.int z), some (.int (n : Int)), some (.lst []), some (.int rest), none, none] = some (rngD 0 n) := fun rest => by
    have hb : -(2 ^ 62 : Int) ≤ (n : Int) ∧ (n : Int) < 2 ^ 62 := by omega
    simp [iRng1, aCons, aNil, eVar]
    omega
  have tail : ∀ rest : Int, ∃ ds : List Int, ((sSeq (sFor (iRng1 (aCons (eVar 1) aNil)) (gSet 4)
      (sSeq (sSet 5 (e2 modD (eL intD (aCons (e2 addD (e2 addD (eVar 0) (e2 mulD (eC (.int 7919)) (eVar 4))) (eC (.int 13))) aNil)) (eC (.int 2147483647))))
    (sSeq (sSet 5 (e2 modD (eL intD (aCons (e2 addD (e2 mulD (eVar 5) (eVar 5)) (e2 mulD (eC (.int 48271)) (eVar 4))) aNil)) (eC (.int 2147483629))))
    (sSeq (sSet 5 (e2 modD (eL intD (aCons (e2 addD (e2 mulD (eVar 5) (eC (.int 69621))) (e2 fdivD (eVar 5) (eC (.int 1009)))) aNil)) (eC (.int 1000003))))
    (sSeq (sIf (tB blD (e2 gtD (eVar 3) (eC (.int 0))))
      (sSeq (sSet 5 (e2 modD (eL intD (aCons (eVar 3) aNil)) (eC (.int 1000003))))
    (sSeq (sSet 3 (e2 fdivD (eVar 3) (eC (.int 1000003))))
    sNil))
      sNil)
    (sSeq (sMut 2 appendF (aCons (eVar 5) aNil))
    sNil))))))
    (sForget [0, 1, 3, 4, 5] (sSeq (sRet (eVar 2))
    sNil)))) [some (.int z), some (.int (n : Int)), some (.lst []), some (.int rest), none, none] = some (.rt (.lst (ds.map D.int))) ∧ ds.length = n ∧ ∀ d ∈ ds, 0 ≤ d ∧ d < 1000003 := fun rest => by
    obtain ⟨ds, ρ', e, hl, hb, r, x4, x5, rfl⟩ := loop rest
    exact ⟨ds, seq_for (rng rest) e (seq_fg (seq_ret rfl)), hl, hb⟩
  by_cases hz : (1000000000000000000 : Int) ≤ z
  · obtain ⟨ds, e, hl, hb⟩ := tail (z - 1000000000000000000)
    refine ⟨ds, runD_rt ?_, hl, hb⟩
    refine seq_set (d := .lst []) (by kernel_rfl) (seq_set (d := .int 0) rfl ?_)
    refine seq_t ((ge_v (i := z) (j := 1000000000000000000) rfl (by kernel_rfl)).trans (by simp [hz])) ?_
    exact seq_as (seq_set (d := .int (z - 1000000000000000000)) (sub_v (i := z) (j := 1000000000000000000) rfl (by kernel_rfl)) (seq_nil e))
  · obtain ⟨ds, e, hl, hb⟩ := tail 0
    refine ⟨ds, runD_rt ?_, hl, hb⟩
    refine seq_set (d := .lst []) (by kernel_rfl) (seq_set (d := .int 0) rfl ?_)
    exact seq_f ((ge_v (i := z) (j := 1000000000000000000) rfl (by kernel_rfl)).trans (by simp [hz])) (seq_nil e)
end FL
namespace FL
open PySem
/-! ### a drawn event -/
def itemR : FL.Env → Option Out :=
    (sSeq (sIf (tB blD (e2 eqD (eVar 2) (eC (.int 0))))
      (sSeq (sRet (eL tupD (aCons (eL tupD (aCons (eC (.str "look")) (aCons (eVar 1) aNil))) (aCons (e2 ixD (eL lstD (aCons (eC .non) (aCons (eVar 5) (aCons (eVar 5) aNil)))) (e2 modD (e2 fdivD (eVar 3) (eC (.int 80))) (eC (.int 3)))) aNil))))
    sNil)
      sNil)
    (sSeq (sIf (tB blD (e2 eqD (eVar 2) (eC (.int 1))))
      (sSeq (sRet (eL tupD (aCons (eL tupD (aCons (eC (.str "get")) (aCons (eVar 1) aNil))) (aCons (e2 ixD (eL lstD (aCons (eC .non) (aCons (eVar 4) (aCons (eVar 4) aNil)))) (e2 modD (e2 fdivD (eVar 3) (eC (.int 80))) (eC (.int 3)))) aNil))))
    sNil)
      sNil)
    (sSeq (sIf (tB blD (e2 eqD (eVar 2) (eC (.int 2))))
      (sSeq (sRet (eL tupD (aCons (eL tupD (aCons (eC (.str "set")) (aCons (eVar 1) (aCons (eVar 4) aNil)))) (aCons (eVar 6) aNil))))
    sNil)
      sNil)
    (sSeq (sIf (tB blD (e2 eqD (eVar 2) (eC (.int 3))))
      (sSeq (sRet (eL tupD (aCons (eL tupD (aCons (eC (.str "define")) (aCons (eVar 1) (aCons (eVar 4) (aCons (e2 ixD (eVar 5) (eC (.int 1))) (aCons (e2 ixD (eVar 5) (eC (.int 2))) aNil)))))) (aCons (eVar 6) aNil))))
    sNil)
      sNil)
    (sForget [4, 5] (sSeq (sIf (tB blD (e2 eqD (eVar 2) (eC (.int 4))))
      (sSeq (sRet (eL tupD (aCons (eL tupD (aCons (eC (.str "has")) (aCons (eVar 1) aNil))) (aCons (eVar 6) aNil))))
    sNil)
      sNil)
    (sSeq (sIf (tB blD (e2 eqD (eVar 2) (eC (.int 5))))
      (sSeq (sRet (eL tupD (aCons (eL tupD (aCons (eC (.str "take")) (aCons (eVar 1) aNil))) (aCons (eVar 6) aNil))))
    sNil)
      sNil)
    (sForget [1] (sSeq (sIf (tB blD (e2 eqD (eVar 2) (eC (.int 6))))
      (sSeq (sSet 7 (eL lstD (aCons (eC (.int 1)) (aCons (eC (.int 2)) (aCons (eC (.int 4)) (aCons (eC (.int 8)) (aCons (eC (.int 16)) (aCons (eC (.int 32)) (aCons (eC (.int 64)) (aCons (eC (.int 128)) aNil))))))))))
    (sSeq (sSet 8 (eComp [9] (iStr (eC (.str "abcdefgh"))) (gSet 9) (tB blD (e2 eqD (e2 modD (eL intD (aCons (e2 fdivD (eVar 3) (e2 ixD (eVar 7) (e2 subD (eL ordD (aCons (eVar 9) aNil)) (eC (.int 97))))) aNil)) (eC (.int 2))) (eC (.int 1)))) (eVar 9)))
    (sSeq (sIf (tB blD (e2 eqD (e2 modD (e2 fdivD (eVar 3) (eC (.int 256))) (eC (.int 2))) (eC (.int 1))))
      (sSeq (sSet 8 (e1 revD (eVar 8)))
    sNil)
      sNil)
    (sSeq (sRet (eL tupD (aCons (eL tupD (aCons (eC (.str "names")) aNil)) (aCons (eL tupOf (aCons (eVar 8) aNil)) aNil))))
    sNil))))
      sNil)
    (sForget [3, 7, 8] (sSeq (sRet (eL tupD (aCons (e2 ixD (eL lstD (aCons (eL tupD (aCons (eC (.str "shut")) aNil)) (aCons (eL tupD (aCons (eC (.str "isshut")) aNil)) aNil))) (e2 subD (eVar 2) (eC (.int 7)))) (aCons (eVar 6) aNil))))
    sNil)))))))))))
def itemG : FL.Env → Option Out :=
    (sSeq (sSet 2 (e2 modD (eL intD (aCons (eVar 0) aNil)) (eC (.int 9))))
    (sSeq (sSet 3 (e2 fdivD (eL intD (aCons (eVar 0) aNil)) (eC (.int 9))))
    (sForget [0] (sSeq (sSet 4 (e2 modD (eVar 3) (eC (.int 10))))
    (sSeq (sSet 5 (eL tupD (aCons (eVar 4) (aCons (e2 eqD (e2 modD (e2 fdivD (eVar 3) (eC (.int 10))) (eC (.int 2))) (eC (.int 1))) (aCons (e2 eqD (e2 modD (e2 fdivD (eVar 3) (eC (.int 20))) (eC (.int 2))) (eC (.int 1))) aNil)))))
    (sSeq (sSet 6 (e2 eqD (e2 modD (e2 fdivD (eVar 3) (eC (.int 40))) (eC (.int 2))) (eC (.int 1)))) itemR))))))
def itemM : List D → Option D := runD false 10 2 itemG
def letters : List Str := (["a", "b", "c", "d", "e", "f", "g", "h"] : List String).map Str.ofString
inductive IsEv (L : Str) : D → Prop
  | look {F : D} : IsFld F → IsEv L (.tup [.tup [.str "look", .str L], F])
  | get0 : IsEv L (.tup [.tup [.str "get", .str L], .non])
  | get {v : Int} : 0 ≤ v → v < 10 → IsEv L (.tup [.tup [.str "get", .str L], .int v])
  | set {v : Int} {y : Bool} : 0 ≤ v → v < 10 → IsEv L (.tup [.tup [.str "set", .str L, .int v], .bl y])
  | define {v : Int} {c g y : Bool} : 0 ≤ v → v < 10 → IsEv L (.tup [.tup [.str "define", .str L, .int v, .bl c, .bl g], .bl y])
  | has {y : Bool} : IsEv L (.tup [.tup [.str "has", .str L], .bl y])
  | take {y : Bool} : IsEv L (.tup [.tup [.str "take", .str L], .bl y])
  | names {zs : List Str} : (∀ z ∈ zs, z ∈ letters) → zs.length ≤ 8 → IsEv L (.tup [.tup [.str "names"], .tup (zs.map D.str)])
  | shut {y : Bool} : IsEv L (.tup [.tup [.str "shut"], .bl y])
  | isshut {y : Bool} : IsEv L (.tup [.tup [.str "isshut"], .bl y])
theorem comp_sub {g : D → Env → Option Env} {T : Env → Option Bool} {E : Env → Option D} {ρ : Env} : ∀ ds : List D, (∀ d ∈ ds, ∃ (ρ2 : Env) (b : Bool), g d ρ = some ρ2 ∧ T ρ2 = some b ∧ E ρ2 = some d) → ∃ ys : List D, compL g T E ρ ds = some ys ∧ (∀ y ∈ ys, y ∈ ds) ∧ ys.length ≤ ds.length
  | [], _ => ⟨[], rfl, by simp, by simp⟩
  | d :: ds, h => by
    obtain ⟨ys, h1, h2, h3⟩ := comp_sub ds fun x hx => h x (.tail _ hx)
    obtain ⟨ρ2, b, a1, a2, a3⟩ := h d (.head _)
    unfold compL
    rw [a1]
    simp only [a2]
    cases b with
    | false => exact ⟨ys, h1, fun y hy => .tail _ (h2 y hy), by simp; omega⟩
    | true =>
      simp only [a3, h1]
      refine ⟨d :: ys, rfl, fun y hy => ?_, by simp; omega⟩
      cases hy with
      | head => exact .head _
      | tail _ hy => exact .tail _ (h2 y hy)
theorem strs_of : ∀ ys : List D, (∀ y ∈ ys, y ∈ letters.map D.str) → ∃ zs : List Str, ys = zs.map D.str ∧ ∀ z ∈ zs, z ∈ letters
  | [], _ => ⟨[], rfl, by simp⟩
  | y :: ys, h => by
    obtain ⟨zs, h1, h2⟩ := strs_of ys fun x hx => h x (.tail _ hx)
    have h3 := h y (.head _)
    rw [List.mem_map] at h3
    obtain ⟨z, h4, h5⟩ := h3
    refine ⟨z :: zs, by rw [h1, ← h5]; rfl, fun x hx => ?_⟩
    cases hx with
    | head => exact h4
    | tail _ hx => exact h2 x hx
theorem comp_v {vs : List Nat} {Fi : Env → Option (List D)} {g : D → Env → Option Env} {T : Env → Option Bool} {E : Env → Option D} {ρ : Env} {ds ys : List D} (h : Fi ρ = some ds) (hl : ds.length ≤ sizeLine) (k : compL g T E (wipeE ρ vs) ds = some ys) : eComp vs Fi g T E ρ = some (.lst ys) := by
  unfold eComp
  rw [h]
  simp only [hl, if_true, k]
theorem item_form (z : Int) (L : Str) : ∃ e, itemM [.int z, .str L] = some e ∧ IsEv L e := by
  have hv : 0 ≤ z / 9 % 10 ∧ z / 9 % 10 < 10 := by omega
  have hk : z % 9 = 0 ∨ z % 9 = 1 ∨ z % 9 = 2 ∨ z % 9 = 3 ∨ z % 9 = 4 ∨ z % 9 = 5 ∨ z % 9 = 6 ∨ z % 9 = 7 ∨ z % 9 = 8 := by omega
  have red : ∀ e, itemR [none, some (.str L), some (.int (z % 9)), some (.int (z / 9)), some (.int (z / 9 % 10)), some (.tup [.int (z / 9 % 10), .bl (z / 9 / 10 % 2 == 1), .bl (z / 9 / 20 % 2 == 1)]), some (.bl (z / 9 / 40 % 2 == 1)), none, none, none] = some (.rt e) → itemM [.int z, .str L] = some e := fun e h => by
    refine runD_rt ?_
    unfold itemG
    exact seq_set (d := .int (z % 9)) (by kernel_rfl) (seq_set (d := .int (z / 9)) (by kernel_rfl) (seq_fg (seq_set (d := .int (z / 9 % 10)) (by kernel_rfl) (seq_set (d := .tup [.int (z / 9 % 10), .bl (z / 9 / 10 % 2 == 1), .bl (z / 9 / 20 % 2 == 1)]) (by kernel_rfl) (seq_set (d := .bl (z / 9 / 40 % 2 == 1)) (by kernel_rfl) h)))))
  generalize z % 9 = kd at hk red
  generalize z / 9 = r at hv red
  generalize r % 10 = v at hv red
  generalize (r / 10 % 2 == 1) = c at red
  generalize (r / 20 % 2 == 1) = g at red
  generalize (r / 40 % 2 == 1) = y at red
  have h3 : r / 80 % 3 = 0 ∨ r / 80 % 3 = 1 ∨ r / 80 % 3 = 2 := by omega
  rcases hk with rfl | rfl | rfl | rfl | rfl | rfl | rfl | rfl | rfl
  · have fin : ∀ X, ixD (.lst [.non, .tup [.int v, .bl c, .bl g], .tup [.int v, .bl c, .bl g]]) (.int (r / 80 % 3)) = some X → itemM [.int z, .str L] = some (.tup [.tup [.str "look", .str L], X]) := fun X hX => by
      refine red _ ?_
      unfold itemR
      exact seq_t (by kernel_rfl) (seq_as (seq_ret (eL_val (ds := [.tup [.str "look", .str L], X]) (aCons_val (by kernel_rfl) (aCons_val (e2_val (x := .lst [.non, .tup [.int v, .bl c, .bl g], .tup [.int v, .bl c, .bl g]]) (y := .int (r / 80 % 3)) (by kernel_rfl) (by kernel_rfl) hX) rfl)) (by kernel_rfl))))
    rcases h3 with h | h | h <;> rw [h] at fin
    · exact ⟨_, fin .non (by kernel_rfl), .look (.inl rfl)⟩
    · exact ⟨_, fin (.tup [.int v, .bl c, .bl g]) (by kernel_rfl), .look (.inr ⟨_, _, _, rfl, hv.1, hv.2⟩)⟩
    · exact ⟨_, fin (.tup [.int v, .bl c, .bl g]) (by kernel_rfl), .look (.inr ⟨_, _, _, rfl, hv.1, hv.2⟩)⟩
  · have fin : ∀ X, ixD (.lst [.non, .int v, .int v]) (.int (r / 80 % 3)) = some X → itemM [.int z, .str L] = some (.tup [.tup [.str "get", .str L], X]) := fun X hX => by
      refine red _ ?_
      unfold itemR
      exact seq_f (by kernel_rfl) (seq_nil (seq_t (by kernel_rfl) (seq_as (seq_ret (eL_val (ds := [.tup [.str "get", .str L], X]) (aCons_val (by kernel_rfl) (aCons_val (e2_val (x := .lst [.non, .int v, .int v]) (y := .int (r / 80 % 3)) (by kernel_rfl) (by kernel_rfl) hX) rfl)) (by kernel_rfl))))))
    rcases h3 with h | h | h <;> rw [h] at fin
    · exact ⟨_, fin .non (by kernel_rfl), .get0⟩
    · exact ⟨_, fin (.int v) (by kernel_rfl), .get hv.1 hv.2⟩
    · exact ⟨_, fin (.int v) (by kernel_rfl), .get hv.1 hv.2⟩
  · exact ⟨.tup [.tup [.str "set", .str L, .int v], .bl y], red _ (by kernel_rfl), .set hv.1 hv.2⟩
  · exact ⟨.tup [.tup [.str "define", .str L, .int v, .bl c, .bl g], .bl y], red _ (by kernel_rfl), .define hv.1 hv.2⟩
  · exact ⟨.tup [.tup [.str "has", .str L], .bl y], red _ (by kernel_rfl), .has⟩
  · exact ⟨.tup [.tup [.str "take", .str L], .bl y], red _ (by kernel_rfl), .take⟩
  · let pw : D := .lst [.int 1, .int 2, .int 4, .int 8, .int 16, .int 32, .int 64, .int 128]
    let T : Env → Option Bool := tB blD (e2 eqD (e2 modD (eL intD (aCons (e2 fdivD (eVar 3) (e2 ixD (eVar 7) (e2 subD (eL ordD (aCons (eVar 9) aNil)) (eC (.int 97))))) aNil)) (eC (.int 2))) (eC (.int 1)))
    let ρ : Env := [none, none, some (.int 6), some (.int r), none, none, some (.bl y), some pw, none, none]
    obtain ⟨ys, h1, h2, h2'⟩ := comp_sub (g := gSet 9) (T := T) (E := eVar 9) (ρ := ρ) (letters.map D.str) (by
      intro d hd
      have one : ∀ k : Int, T (ρ.set 9 (some d)) = some (r / k % 2 == 1) → ∃ (ρ2 : Env) (b : Bool), gSet 9 d ρ = some ρ2 ∧ T ρ2 = some b ∧ eVar 9 ρ2 = some d := fun k h => ⟨_, _, rfl, h, by kernel_rfl⟩
      simp only [letters, List.map_map, List.map_cons, List.map_nil, List.mem_cons, List.not_mem_nil, or_false, Function.comp_apply] at hd
      rcases hd with rfl | rfl | rfl | rfl | rfl | rfl | rfl | rfl
      · exact one 1 (by kernel_rfl)
      · exact one 2 (by kernel_rfl)
      · exact one 4 (by kernel_rfl)
      · exact one 8 (by kernel_rfl)
      · exact one 16 (by kernel_rfl)
      · exact one 32 (by kernel_rfl)
      · exact one 64 (by kernel_rfl)
      · exact one 128 (by kernel_rfl))
    obtain ⟨zs, rfl, h4⟩ := strs_of ys h2
    have h5 : zs.length ≤ 8 := by simpa [letters] using h2'
    have fin : ∃ ws : List Str, itemM [.int z, .str L] = some (.tup [.tup [.str "names"], .tup (ws.map D.str)]) ∧ (∀ w ∈ ws, w ∈ letters) ∧ ws.length ≤ 8 := by
      cases hb : (r / 256 % 2 == 1) with
      | false =>
        refine ⟨zs, red _ ?_, h4, h5⟩
        unfold itemR
        refine seq_f (by kernel_rfl) (seq_nil (seq_f (by kernel_rfl) (seq_nil (seq_f (by kernel_rfl) (seq_nil (seq_f (by kernel_rfl) (seq_nil (seq_fg (seq_f (by kernel_rfl) (seq_nil (seq_f (by kernel_rfl) (seq_nil (seq_fg (seq_t (by kernel_rfl) (seq_as ?_)))))))))))))))
        refine seq_set (d := pw) (by kernel_rfl) (seq_as (seq_set (d := .lst (zs.map D.str)) (comp_v (ds := letters.map D.str) (by kernel_rfl) (by decide) h1) (seq_as ?_)))
        refine seq_f (by rw [← hb]; kernel_rfl) (seq_nil (seq_as (seq_ret (by kernel_rfl))))
      | true =>
        refine ⟨zs.reverse, red _ ?_, fun w hw => h4 w (List.mem_reverse.mp hw), by simpa using h5⟩
        unfold itemR
        refine seq_f (by kernel_rfl) (seq_nil (seq_f (by kernel_rfl) (seq_nil (seq_f (by kernel_rfl) (seq_nil (seq_f (by kernel_rfl) (seq_nil (seq_fg (seq_f (by kernel_rfl) (seq_nil (seq_f (by kernel_rfl) (seq_nil (seq_fg (seq_t (by kernel_rfl) (seq_as ?_)))))))))))))))
        refine seq_set (d := pw) (by kernel_rfl) (seq_as (seq_set (d := .lst (zs.map D.str)) (comp_v (ds := letters.map D.str) (by kernel_rfl) (by decide) h1) (seq_as ?_)))
        refine seq_t (by rw [← hb]; kernel_rfl) (seq_as (seq_set (d := .lst ((zs.map D.str).reverse)) (by kernel_rfl) (seq_nil (seq_as ?_))))
        rw [← List.map_reverse]
        exact seq_ret (by kernel_rfl)
    obtain ⟨ws, q1, q2, q3⟩ := fin
    exact ⟨_, q1, .names q2 q3⟩
  · exact ⟨.tup [.tup [.str "shut"], .bl y], red _ (by kernel_rfl), .shut⟩
  · exact ⟨.tup [.tup [.str "isshut"], .bl y], red _ (by kernel_rfl), .isshut⟩
theorem inB_strs (M : Str) (zs : List Str) : inB (.str M) (.tup (zs.map D.str)) = some ((zs.map D.str).any fun z => deq z (.str M)) := by
  have h : (zs.map D.str).all flatD = true := by
    induction zs with
    | nil => rfl
    | cons z zs ih => exact ih
  show (if (flatD (.str M) && (zs.map D.str).all flatD) = true then _ else _) = _
  rw [h]
  rfl
end FL
namespace FL
open PySem L2 PySem.Spec PyProof.Rows
/-! ### list comprehensions with any number of clauses -/
section
variable {P : Program} {W : World} {B : Around} {elt : Expr} {gens : List Comprehension} {scope : Scope} {pos : Pos} {n : Nat} {it out : Value} {env : PySem.Env} {c : Comprehension} {st : Shared}
/-- what a turn of clause n does behind its tests, up to the moment where it goes on -/
def Behind (P : Program) (W : World) (B : Around) (elt : Expr) (gens : List Comprehension) (scope : Scope) (pos : Pos) (env : PySem.Env) (out : Value) (n : Nat) (K : Shared → Prop) (E : Value → Shared → Prop) (st : Shared) : Prop :=
  match gens[n]? with
  | some d => d.is_async = 0 ∧ (∀ x, foldedSetIterable d.iter env x = pure x) ∧
      wpAny (model P W) B (eval d.iter env) (fun x s1 => wpAny (model P W) B (pyIter x) (fun i s2 =>
        codeAny (model P W) B (.compStart (.ListComp elt gens scope pos) n i out env) (fun r s' => match r with | .ok _ => K s' | .error _ => False) s2) E s1) E st
  | none => wpAny (model P W) B (eval elt env) (fun y s1 => wpAny (model P W) B (call (.builtin "list.append") [out, y]) (fun _ s' => K s') E s1) E st
/-- one turn of clause n -/
theorem turn_n {Post : Fin → Shared → Prop} {E : Value → Shared → Prop} (hg : gens[n]? = some c) (ha : c.is_async = 0)
    (h : wpAny (model P W) B (pyNext it) (fun r s1 => match r with
      | none => Post (.done .next) s1
      | some v => wpAny (model P W) B (letOwnedTupleGo c.target it v) (fun _ s2 => wpAny (model P W) B (assign c.target env v) (fun _ s3 =>
          wpAny (model P W) B (forIn c.ifs true fun c r => if r = true then do let ok ← isTrue c env (eval c env); pure (ForInStep.yield ok) else pure (ForInStep.yield r)) (fun ok s4 =>
            if ok = true then Behind P W B elt gens scope pos env out (n + 1) (Post (.again (.compLoop (.ListComp elt gens scope pos) n it out env))) E s4
            else Post (.again (.compLoop (.ListComp elt gens scope pos) n it out env)) s4) E s3) E s2) E s1) E st) :
    wpAny (model P W) B (compTurn (.ListComp elt gens scope pos) n it out env) Post E st := by
  unfold compTurn
  simp only [hg, ha]
  have same : ∀ e s, E e s → E e s := fun _ _ z => z
  apply wpAny_bind; apply wpAny_standAt; apply wpAny_bind
  refine wpAny_mono h (fun r s1 h1 => ?_) same
  match r, h1 with
  | none, h1 => exact wpAny_pure h1
  | some v, h1 =>
    apply wpAny_bind
    refine wpAny_mono h1 (fun _ s2 h2 => ?_) same
    apply wpAny_bind
    refine wpAny_mono h2 (fun _ s3 h3 => ?_) same
    apply wpAny_bind
    refine wpAny_mono h3 (fun ok s4 h4 => ?_) same
    cases ok
    · exact wpAny_pure h4
    · simp only [if_true] at h4 ⊢
      clear h h1 h2 h3
      unfold Behind at h4
      cases hd : gens[n + 1]? with
      | none =>
        rw [hd] at h4
        simp only at h4 ⊢
        apply wpAny_bind; apply wpAny_bind
        refine wpAny_mono h4 (fun y s5 h5 => ?_) same
        apply wpAny_bind
        exact wpAny_mono h5 (fun _ s6 h6 => wpAny_pure (wpAny_pure h6)) same
      | some d =>
        rw [hd] at h4
        simp only at h4 ⊢
        obtain ⟨hz, hs, h4⟩ := h4
        simp only [hz]
        apply wpAny_bind
        refine wpAny_mono h4 (fun x s5 h5 => ?_) same
        apply wpAny_bind; apply wpAny_standAt; apply wpAny_bind
        refine wpAny_of_eq (hs x) ?_
        apply wpAny_bind; apply wpAny_holding
        refine wpAny_mono h5 (fun i s6 h6 => ?_) same
        apply wpAny_bind
        apply wpAny_runOwn (hnb := by decide)
        rw [Around.mark_none]
        refine codeAny_mono h6 fun r s' hr => ?_
        match r, hr with
        | .ok _, hr => first | exact wpAny_pure hr | exact wpAny_bind (wpAny_pure (wpAny_pure hr))
        | .error _, hr => exact False.elim hr
/-- clause n begins -/
theorem start_n {R : Result → Shared → Prop} (hg : gens[n]? = some c) (ha : c.is_async = 0) (h0 : codeAny (model P W) B (.compLoop (.ListComp elt gens scope pos) n it out env) R st)
    (h : ∀ E, wpAny (model P W) B (pyIter it) (fun i s' => codeAny (model P W) B (.compLoop (.ListComp elt gens scope pos) n i out env) R s') E st) : codeAny (model P W) B (.compStart (.ListComp elt gens scope pos) n it out env) R st := by
  apply codeAny_of_tree
  change wpAny _ _ ((compStart (.ListComp elt gens scope pos) n it out env).onRaise (fun x => do noteFrame x env; standAt theWindowsPlace)) _ _ st
  apply wpAny_notedAt
  have e1 : (clausesOf (.ListComp elt gens scope pos))[n]? = some c := hg
  unfold compStart
  simp only [e1, ha, Option.elim]
  change wpAny _ _ (ask >>= _) _ _ st
  apply wpAny_bind; apply wpAny_askSetting; apply wpAny_ite
  split
  · first | exact wpAny_pure ⟨rfl, h0⟩ | exact wpAny_bind (wpAny_pure (wpAny_pure ⟨rfl, h0⟩))
  · apply wpAny_bind; apply wpAny_rule
    first | apply wpAny_bind | (change wpAny _ _ (standAt c.iter.pos >>= _) _ _ st; apply wpAny_bind)
    apply wpAny_standAt
    apply wpAny_bind
    exact wpAny_mono (h _) (fun i s' z => wpAny_pure ⟨rfl, z⟩) fun _ _ z => z
end
/-- a clause's four meanings, and the slots that it and those behind it store -/
structure Lv where
  wi : TI
  g : TG
  tt : TT
  vs : List Nat
/-- one walk over what J gives: W, the walk's own state, goes down; Go is what is done with an item -/
def Walk (l : Lv) (Go : (Hp → Prop) → L2.St → Hp → Prop) (J : It) (Stop : Hp → Prop) (σ : L2.St) (H0 : Hp) : Prop :=
  ∃ W : Nat → Nat → Hp → Prop, (∃ m, W 0 m H0) ∧ ∀ j k H, W j k H →
    (J.stop j H ∧ Stop H) ∨ (J.go j H ∧ ∃ Nx : Hp → Prop, (∀ H', Nx H' → ∃ k', k' < k ∧ W (j + 1) k' H') ∧ ∀ x H', J.yld j H x H' → l.g x (wipe σ l.vs) H' fun σ3 H5 => wipe σ3 l.vs = wipe σ l.vs ∧ l.tt σ3 H5 fun b H6 =>
      if b = true then Go Nx σ3 H6 else Nx H6)
/-- what is behind the tests: the clauses that are left, then the element -/
def tIn (te : TE) (D : Addr) : List Lv → (Hp → Prop) → L2.St → Hp → Prop
  | [], Nx, σ, H => te σ H fun y H7 => ∃ acc, H7 D = some (.lst acc) ∧ acc.length < sizeLine ∧ Nx (upd H7 D (.lst (acc ++ [y])))
  | l :: ls, Nx, σ, H => l.wi σ H fun J H4 => Walk l (tIn te D ls) J Nx σ H4
def LvOk (B : Cx) (c : Comprehension) (l : Lv) : Prop := c.is_async = 0 ∧ (∀ x, foldedSetIterable c.iter B.env x = pure x) ∧ PI B c.target c.iter l.wi ∧ PG B c.target l.g ∧ PTs B c.ifs l.tt
inductive Lvs (B : Cx) : List Nat → List Comprehension → List Lv → Prop
  | nil {vs} : Lvs B vs [] []
  | cons {vs c l cs ls} : LvOk B c l → (∀ i ∈ l.vs, i ∈ vs) → Lvs B l.vs cs ls → Lvs B vs (c :: cs) (l :: ls)
/-- between two turns -/
structure At (B : Cx) (pins : List (Addr × Obj)) (σ : L2.St) (tn : Nat → Heap → Prop) (fp : List Addr) (i : Nat) (H : Hp) (s : Shared) : Prop where
  inv : Inv B pins σ H s
  tn : tn i s.heap
  no : ∀ b ∈ fp, H b = none
section
variable {X : Cx} {elt : Expr} {gens : List Comprehension} {scope : Scope} {pos : Pos} {ce : PySem.Env} {D : Addr} {te : TE} {s3 : Shared} {H3 : Hp} {fp : List Addr}
theorem At.ends {B : Cx} {pins : List (Addr × Obj)} {σ τ : L2.St} {tg : Expr} {J : It} {Q : Program} {W : World} {K : PySem.W.Frag} {it : Addr} {own : List Addr} {tn : Nat → Heap → Prop} {i : Nat} {mid s' : Shared} {H' : Hp} (T : Turn Q W K tg J own it tn) (hm : tn i mid.heap)
    (I : Inv B (pins ++ pinsAt own mid.heap) τ H' s') (hl : σ.length = τ.length) (hk : ∀ (a : Nat) v, σ[a]? = some (some v) → τ[a]? = some (some v)) : At B pins σ tn own i H' s' := by
  have still : ∀ b ∈ own, ∀ o, mid.heap.get? b = some o → s'.heap.get? b = some o ∧ H' b = none := by
    intro b hb o ho
    have w := I.pin (b, o) (List.mem_append.mpr (.inr (List.mem_append.mpr (.inr (mem_pinsAt hb ho)))))
    exact ⟨w.1, w.2.1⟩
  constructor
  · exact I.unpinned.weak hl hk
  · exact T.keep _ _ _ hm fun b hb o ho => (still b hb o ho).1
  · intro b hb
    rcases T.obj _ _ hm b hb with ⟨o, ho, -⟩
    exact (still b hb o ho).2
/-- a clause's loop -/
theorem loop_n {j : Nat} {c : Comprehension} {l : Lv} {ls : List Lv} {pins : List (Addr × Obj)} {σ : L2.St} {Stop : Hp → Prop} {it : Addr} {own : List Addr} {tn : Nat → Heap → Prop} {J : It} {H : Hp} {s : Shared} {R : Result → Shared → Prop} (hc : X.calm = true)
    (hg : gens[j]? = some c) (ha : c.is_async = 0) (pg : PG (X.blk s3 H3 scope ce fp) c.target l.g) (pt : PTs (X.blk s3 H3 scope ce fp) c.ifs l.tt)
    (rest : ∀ {pins : List (Addr × Obj)} {σ : L2.St} {H : Hp} {s : Shared} {Nx : Hp → Prop} {K : Shared → Prop} {E : Value → Shared → Prop}, Inv (X.blk s3 H3 scope ce fp) pins σ H s → tIn te D ls Nx σ H → (∀ H' s', Inv (X.blk s3 H3 scope ce fp) pins (wipe σ l.vs) H' s' → Nx H' → K s') → Behind X.prog X.w X.A elt gens scope pos ce (.ref D) (j + 1) K E s)
    (T : Turn X.prog X.w X.K c.target J own it tn)
    (stat : ∀ {H' s'}, Inv (X.blk s3 H3 scope ce fp) pins (wipe σ l.vs) H' s' → (∀ b ∈ own, H' b = none) → ∀ b ∈ own, FpOk (X.blk s3 H3 scope ce fp) pins H' b)
    (walk : Walk l (tIn te D ls) J Stop σ H) (here : At (X.blk s3 H3 scope ce fp) pins (wipe σ l.vs) tn own 0 H s)
    (hdone : ∀ H' s', Inv (X.blk s3 H3 scope ce fp) pins (wipe σ l.vs) H' s' → Stop H' → R (.ok .next) s') :
    codeAny (model X.prog X.w) X.A (.compLoop (.ListComp elt gens scope pos) j (.ref it) (.ref D) ce) R s := by
  rcases walk with ⟨W, ⟨m, w0⟩, turn⟩
  apply codeAny_loop rfl (fun k s' => ∃ i H', At (X.blk s3 H3 scope ce fp) pins (wipe σ l.vs) tn own i H' s' ∧ W i k H') _ m ⟨0, H, here, w0⟩
  rintro k s' ⟨i, Hi, here, wk⟩
  change wpAny _ X.A ((compTurn (.ListComp elt gens scope pos) j (.ref it) (.ref D) ce).onRaise (fun x => do noteFrame x ce; theTreesLotGoes x)) _ _ s'
  apply wpAny_noted
  apply turn_n hg ha
  have fpok := stat here.inv here.no
  rcases turn i k Hi wk with ⟨stop, fin⟩ | ⟨go, Nx, down, item⟩
  · refine thnF (T.done (X.blk s3 H3 scope ce fp) rfl rfl rfl hc i pins s' _ Hi (fun _ _ => False) here.inv fpok here.tn stop) ?_
    rintro _ s1 ⟨rfl, I1⟩
    exact hdone Hi s1 I1 fin
  · refine thnF (T.item (X.blk s3 H3 scope ce fp) rfl rfl rfl hc i pins s' _ Hi (fun _ _ => False) here.inv fpok here.tn go) ?_
    rintro _ s1 ⟨u, rfl, q1⟩
    refine thnF q1 ?_
    rintro _ mid ⟨x, Hm, Im, rx, yx, tm, nm⟩
    have pinned := Im.pinned (stat Im nm) (T.obj _ _ tm)
    refine thnF (pg.run _ mid _ Hm x u _ pinned rx (item x Hm yx)) ?_
    rintro _ s2 ⟨τ, H2, I2, same, q2⟩
    refine thnF (pt.run _ s2 τ H2 _ I2 q2) ?_
    rintro b s4 ⟨H4, I4, q4⟩
    have len : (wipe σ l.vs).length = τ.length := by rw [← same, wipe_length]
    cases b
    · simp only [Bool.false_eq_true, ↓reduceIte] at q4 ⊢
      rcases down H4 q4 with ⟨k', lt, wk'⟩
      exact ⟨trivial, k', lt, i + 1, H4, At.ends T tm I4 len fun a v e => (wipe_some (same ▸ e)).1, wk'⟩
    · simp only [↓reduceIte] at q4 ⊢
      refine rest I4 q4 fun H5 s5 I5 q5 => ?_
      rcases down H5 q5 with ⟨k', lt, wk'⟩
      exact ⟨trivial, k', lt, i + 1, H5, At.ends T tm I5 (len.trans (wipe_length τ l.vs).symm) fun a v e => same ▸ e, wk'⟩
/-- the clauses that are left -/
theorem rest_n (hc : X.calm = true) (henv : (X.blk s3 H3 scope ce fp).env = ce) (pe : PE (X.blk s3 H3 scope ce fp) elt te) : ∀ {ls : List Lv} {cs : List Comprehension} {vs : List Nat} {j : Nat}, Lvs (X.blk s3 H3 scope ce fp) vs cs ls → gens.drop j = cs →
    ∀ {pins : List (Addr × Obj)} {σ : L2.St} {H : Hp} {s : Shared} {Nx : Hp → Prop} {K : Shared → Prop} {E : Value → Shared → Prop}, Inv (X.blk s3 H3 scope ce fp) pins σ H s → tIn te D ls Nx σ H → (∀ H' s', Inv (X.blk s3 H3 scope ce fp) pins (wipe σ vs) H' s' → Nx H' → K s') → Behind X.prog X.w X.A elt gens scope pos ce (.ref D) j K E s
  | [], cs, vs, j, L, hd, pins, σ, H, s, Nx, K, E, I, q, hK => by
    cases L
    have hj : gens[j]? = none := List.getElem?_eq_none (by simpa using hd)
    unfold Behind
    rw [hj]
    refine thnF (pe.run _ s σ H _ I q) ?_
    rintro v s1 ⟨y, H1, I1, ry, acc, hD, room, nx⟩
    exact app_ok (X := X.blk s3 H3 scope ce fp) I1 hD room ry fun s2 I2 => hK _ s2 (I2.weak (wipe_length _ _) fun a v e => (wipe_some e).1) nx
  | l :: ls, _, vs, j, .cons (c := c) (cs := cs) ⟨ha, hs, pi, pg, pt⟩ sub more, hd, pins, σ, H, s, Nx, K, E, I, q, hK => by
    have hj : gens[j]? = some c := by
      have := congrArg List.head? hd
      rwa [List.head?_drop] at this
    have hd' : gens.drop (j + 1) = cs := by
      have := congrArg List.tail hd
      rwa [List.tail_drop] at this
    unfold Behind
    rw [hj]
    refine ⟨ha, hs, thnF (pi.run _ s σ H _ I q) fun x s1 hx => thnF hx ?_⟩
    rintro _ s2 ⟨it, own, tn, J, H2, rfl, I2, T, t0, fo, walk⟩
    have loop := loop_n (s3 := s3) (H3 := H3) (fp := fp) (pos := pos) (R := fun r s' => match r with | .ok _ => K s' | .error _ => False) hc hj ha pg pt
      (fun {pins σ H s Nx K E} I q hK => rest_n hc henv pe more hd' I q hK) T (fun {H' s'} _ hn b hb => ⟨hn b hb, (fo b hb).2⟩) walk
      ⟨I2.weak (wipe_length _ _) fun a v e => (wipe_some e).1, t0, fun b hb => (fo b hb).1⟩
      (fun H' s' I' nx => hK H' s' (I'.weak (by rw [wipe_length, wipe_length]) fun a v e => ?_) nx)
    · exact start_n hj ha loop fun E => T.self X.A 0 _ _ _ t0 loop
    · have ⟨e1, e2⟩ := wipe_some e
      rwa [L2.wipe_out fun z => e2 (sub a z)]
end
/-- a new list that nothing knows yet -/
theorem laid_list {X : Cx} {pins : List (Addr × Obj)} {σ : L2.St} {H : Hp} {s : Shared} {fp : List Addr} (I : Inv X pins σ H s) (hf : ∀ b ∈ fp, FpOk X pins H b) (ho : ∀ b ∈ fp, ∃ o, s.heap.get? b = some o) {D : Addr} (hD : s.heap.objs.size = D) {o : Obj} (e : o = { cls := .type "list", data := .seq #[] }) :
    Inv X pins σ (upd H D (.lst [])) { s with heap := s.heap.push o } ∧ ∀ b ∈ fp, FpOk X pins (upd H D (.lst [])) b ∧ b < (s.heap.push o).objs.size := by
  subst hD e
  constructor
  · exact I.laid (t' := s.toks) (fun b o z => Heap.get?_push_of_some _ z) (Nat.le_refl _) ⟨Nat.zero_le _, [], 0, .nil, Heap.get?_push_size _ rfl⟩
  · intro b hb
    rcases ho b hb with ⟨o, z⟩
    have small : b < s.heap.objs.size := Heap.lt_size z
    have away : upd H s.heap.objs.size (.lst []) b = H b := upd_ne (Nat.ne_of_lt small)
    exact ⟨⟨away.trans (hf b hb).1, (hf b hb).2⟩, by rw [Heap.size_push]; exact Nat.lt_succ_of_lt small⟩
section
variable {X : Cx} {elt tg iter : Expr} {ifs : List Expr} {cs : List Comprehension} {scope : Scope} {own : List (Str × Nat)} {pos : Pos} {te : TE}
/-- [elt for tg in iter if .. for ..] -/
def tLcN (te : TE) (l : Lv) (ls : List Lv) : TE := fun σ H Q => l.wi σ H fun J H1 => ∀ D, H1 D = none → Walk l (tIn te D ls) J (fun H => Q (.ref D) H) σ (upd H1 D (.lst []))
theorem pe_lcN {l : Lv} {ls : List Lv} (hc : X.calm = true) (hN : X.N.Nodup) (hi : PI X tg iter l.wi) (ok : BlkOk X.N X.env.scope scope own) (hvs : l.vs = own.map (·.2)) (hs : ∀ x, foldedSetIterable iter X.env x = pure x)
    (hg : ∀ s H C cl fp, PG (X.blk s H scope (compEnvC scope cl C X.env) fp) tg l.g) (ht : ∀ s H C cl fp, PTs (X.blk s H scope (compEnvC scope cl C X.env) fp) ifs l.tt)
    (he : ∀ s H C cl fp, PE (X.blk s H scope (compEnvC scope cl C X.env) fp) elt te) (hL : ∀ s H C cl fp, Lvs (X.blk s H scope (compEnvC scope cl C X.env) fp) l.vs cs ls) :
    PE X (.ListComp elt (⟨tg, iter, ifs, 0⟩ :: cs) scope pos) (tLcN te l ls) := by
  constructor
  intro pins s σ H Q I h
  rw [eval_ListComp]
  change wpAny (model X.prog X.w) X.A (comprehension (.ListComp elt (⟨tg, iter, ifs, 0⟩ :: cs) scope pos) scope X.env (firstIterPos (⟨tg, iter, ifs, 0⟩ :: cs) pos) (newList []) false (eval iter X.env)) _ _ s
  have cells : ∀ y ∈ scope.names, y.2 = .free → ∃ c, X.env.cells.lookup y.1 = some c := by
    intro y hy e
    rcases ok.free y hy e with z | z
    · exact I.ok.has _ (.inl z)
    · exact I.ok.has _ (.inr z)
  refine wpAny_comprehension_free (use := none) rfl hs (closure_ok cells) ok.kind (fun y hy e => (ok.uniq y hy).trans (congrArg some e)) (thn (hi.run pins s σ H _ I h) fun x s1 hx => thn hx ?_)
  rintro _ s2 ⟨it, fp, tn, J, H2, rfl, I2, T, t0, fo, q⟩
  refine wpAny_newObj_type (h := newEnv_comp ?_) ?size
  case size => exact Nat.zero_le sizeLine
  have walk := q s2.heap.objs.size (I2.hok.fresh (Nat.le_refl _))
  have alive : ∀ b ∈ fp, ∃ o, s2.heap.get? b = some o := fun b hb => let ⟨o, z, _⟩ := T.obj _ _ t0 b hb; ⟨o, z⟩
  have ⟨I3, f3⟩ := laid_list I2 fo alive rfl (o := { cls := .type "list", data := .seq ([] : List Value).toArray }) rfl
  have inside := block_start I3 ok hN f3
  rw [← hvs] at inside
  have later : ∀ {h : Heap}, (∀ b o, s2.heap.get? b = some o → h.get? b = some o) → tn 0 h := fun keeps => T.keep _ _ _ t0 fun b _ o z => keeps b o z
  refine codeAny_compStart_list ?_ (T.self X.A 0 _ _ _ (later fun b o z => pushCells_keeps _ _ _ _ (Heap.get?_push_of_some _ (Heap.get?_push_of_some _ z))) ?_) <;>
  · refine loop_n (pins := []) (l := l) (ls := ls) (te := te) hc rfl rfl (hg _ _ _ _ _) (ht _ _ _ _ _) (fun {pins σ H s Nx K E} I q hK => rest_n hc rfl (he _ _ _ _ _) (hL _ _ _ _ _) rfl I q hK) T ?_ walk
      ⟨inside, later fun b o z => pushCells_keeps _ _ _ _ (Heap.get?_push_of_some _ (Heap.get?_push_of_some _ z)), fun b hb => (f3 b hb).1.1⟩ ?_
    · intro H' s' I' hn b hb
      refine ⟨hn b hb, (I'.ok.exf b hb).1, I'.ok.exfs b hb, .inl hb, fun x c e => (I'.ok.exf b hb).2 x c e, fun p hp => ?_⟩
      cases hp
    · intro H5 s6 I6 fin
      have I7 : Inv X pins σ H5 s6 := I3.call' (ch := fp) I6.os I6.base I6.hok I6.bare fun b hb => let z := (f3 b hb).1.2; ⟨z.2.2.1, z.1, z.2.2.2.1, z.2.2.2.2⟩
      rcases I6.loc with ⟨m, hn, _⟩
      rcases I3.fpOk (Nat.le_refl _) I6.free with ⟨f0, f1, _, f4, f5, f6⟩
      exact ⟨m, hn, fun _ sb => ⟨.ref s2.heap.objs.size, H5, I7.turned (t' := s6.toks) (fun b o hb e => (sb.2 b hb).trans e) f0 f1 f4 f5 f6, rfl, fin⟩⟩
end
end FL
namespace FL
open PySem L2
/-! ### list comprehensions of several clauses -/
def flatL (g : D → Env → Option Env) (R : Env → Option (List D)) (ρ : Env) : List D → Option (List D)
  | [] => some []
  | d :: ds => match g d ρ with
    | none => none
    | some ρ2 => match R ρ2 with
      | none => none
      | some xs => match flatL g R ρ ds with | none => none | some ys => some (xs ++ ys)
def cE (E : Env → Option D) : Env → Option (List D) := fun ρ => match E ρ with | some y => some [y] | none => none
def cF (vs : List Nat) (Fi : Env → Option (List D)) (g : D → Env → Option Env) (R : Env → Option (List D)) : Env → Option (List D) := fun ρ =>
  match Fi ρ with | some ds => flatL g R (wipeE ρ vs) ds | none => none
def eCompN (O vs : List Nat) (Fi : Env → Option (List D)) (g : D → Env → Option Env) (R : Env → Option (List D)) : Env → Option D := fun ρ =>
  match Fi ρ with | some ds => (match flatL g R (wipeE (wipeE ρ O) vs) ds with | some ys => if ys.length ≤ sizeLine then some (.lst ys) else none | none => none) | none => none
/-- two heaps, but for D -/
structure GX (D : Addr) (Hf H Hf' H' : Hp) : Prop where
  f : Same Hf Hf'
  h : ∀ b o, b ≠ D → H b = some o → H' b = some o
  s : Same Hf' H'
  n : ∀ a o, H a = some o → Hf a = none → Hf' a = none
section
variable {K : PySem.W.Frag} {φ : Nat → Option Addr} {Hf0 H0 Hf H Hf' H' Hf1 H1 Hf2 H2 : Hp} {O : List Nat} {ρ : Env} {σ : St} {D : Addr}
theorem Gr.x (g : Gr Hf H Hf' H') : GX D Hf H Hf' H' := ⟨g.f, fun b o _ e => g.h b o e, g.s, g.n⟩
theorem GX.trans (a : GX D Hf H Hf1 H1) (b : GX D Hf1 H1 Hf2 H2) (hd : Hf2 D = none) : GX D Hf H Hf2 H2 :=
  ⟨a.f.trans b.f, fun x o hx e => b.h x o hx (a.h x o hx e), b.s, fun x o h1 h2 => by
    by_cases hx : x = D
    · rw [hx]; exact hd
    · exact b.n x o (a.h x o hx h1) (a.n x o h1 h2)⟩
theorem GX.put (s : Same Hf H) {o : HO} (hd : Hf D = none) : GX D Hf H Hf (upd H D o) :=
  ⟨Same.refl _, fun b o hb e => by rw [upd_ne hb]; exact e, fun b o e => by rw [upd_ne (ne_of_none e hd)]; exact s _ _ e, fun _ _ _ h => h⟩
theorem SR.gx (S : SR K φ Hf0 H0 [] ρ σ Hf H) (h0 : H0 D = none) (g : GX D Hf H Hf' H') : SR K φ Hf0 H0 [] ρ σ Hf' H' :=
  ⟨S.len, g.s, S.gf.trans g.f, fun b o e => g.h b o (ne_of_none e h0) (S.gh _ _ e), fun a o h1 h2 => g.n a o (S.gh _ _ h1) (S.gn a o h1 h2),
    fun i d e n => let ⟨v, e1, r⟩ := S.val i d e n; ⟨v, e1, r.mono g.f⟩, fun i d e m => absurd m (by simp), fun i j d e a h1 h2 m1 => absurd m1 (by simp)⟩
theorem SR.drop {O' : List Nat} (hO : (O.all fun i => O'.contains i) = true) (S : SR K φ Hf0 H0 O ρ σ Hf H) : SR K φ Hf0 H0 [] (wipeE ρ O') σ Hf H :=
  ⟨by rw [wipeE_len]; exact S.len, S.sub, S.gf, S.gh, S.gn, fun i d e _ => let ⟨e1, e2⟩ := wipeE_some e; S.val i d e1 fun m => e2 (by simpa using (List.all_eq_true.mp hO) i m), fun i d e m => absurd m (by simp), fun i j d e a h1 h2 m1 => absurd m1 (by simp)⟩
end
section
variable {X : Cx} {O : List Nat} {tg iter elt : Expr} {scope : Scope} {own : List (Str × Nat)} {pos : Pos} {cs : List Comprehension} {ls : List Lv} {R : Env → Option (List D)}
def uI (X : Cx) (scope : Scope) (tg iter : Expr) : TI := fun σ H Q => ∀ (s : Shared) (H0 : Hp) (C : Addr) (cl : List (Str × Addr)) (fp : List Addr), wI (X.blk s H0 scope (compEnvC scope cl C X.env) fp) tg iter σ H Q
/-- the clauses that are left, and the element -/
def FR (X : Cx) (scope : Scope) (elt : Expr) (vs0 : List Nat) (cs : List Comprehension) (ls : List Lv) (R : Env → Option (List D)) : Prop :=
  (∀ s H C cl fp, Lvs (X.blk s H scope (compEnvC scope cl C X.env) fp) vs0 cs ls) ∧
  ∀ (φ : Nat → Option Addr) (Hf0 H0 : Hp) (ρ : Env) (σ : St) (Hf H : Hp) (xs : List D) (D' : Addr) (acc : List D) (us : List V) (Nx : Hp → Prop), H0 D' = none → SR X.K φ Hf0 H0 [] ρ σ Hf H → R ρ = some xs → Hf D' = none → H D' = some (.lst us) → RpAll X.K φ Hf acc us → acc.length + xs.length ≤ sizeLine →
    (∀ Hf' H' us', GX D' Hf H Hf' H' → Hf' D' = none → H' D' = some (.lst us') → RpAll X.K φ Hf' (acc ++ xs) us' → Nx H') → tIn (uE X scope elt) D' ls Nx σ H
theorem fr_nil {vs0 : List Nat} {E : Env → Option D} (he : ∀ s H C cl fp, FE (X.blk s H scope (compEnvC scope cl C X.env) fp) [] elt E) : FR X scope elt vs0 [] [] (cE E) := by
  refine ⟨fun _ _ _ _ _ => .nil, fun φ Hf0 H0 ρ σ Hf H xs D' acc us Nx h0 S hF hf hh r hl k => ?_⟩
  unfold cE at hF
  split at hF
  · rename_i y hy
    cases hF
    intro s h C cl fp
    refine he s h C cl fp φ Hf0 H0 ρ σ Hf H y _ S hy fun v Hf5 H5 g5 r5 => ?_
    have hf5 := g5.n _ _ hh hf
    refine ⟨us, g5.h _ _ hh, ?_, k Hf5 _ (us ++ [v]) ((Gr.x g5).trans (GX.put g5.s hf5) hf5) hf5 upd_same ((r.mono g5.f).append (.one r5))⟩
    rw [← r.length]
    simp only [List.length_singleton] at hl
    omega
  · cases hF
/-- the loop over the items of a clause -/
theorem loop_it {g : D → Env → Option Env} {vs tgs : List Nat} (hg : ∀ s H C cl fp, FG (X.blk s H scope (compEnvC scope cl C X.env) fp) [] [] tgs tg g) (htg : ∀ i ∈ tgs, i ∈ vs) (hr : FR X scope elt vs cs ls R)
    {φ : Nat → Option Addr} {Hf0 H0 : Hp} {ρ : Env} {σ : St} {Hf1 H1 H4 : Hp} {ds xs acc : List D} {D' : Addr} {us : List V} {J : It} {Nx : Hp → Prop} (h0 : H0 D' = none) (S : SR X.K φ Hf0 H0 [] ρ σ Hf1 H1)
    (step : ∀ i Hf2 H2, GX D' Hf1 H1 Hf2 H2 → Hf2 D' = none → (ds.length ≤ i → J.stop i H2) ∧ ∀ d, ds[i]? = some d → J.go i H2 ∧ ∀ x H3, J.yld i H2 x H3 → ∃ Hf3, Gr Hf2 H2 Hf3 H3 ∧ Rp X.K φ Hf3 d x)
    (hxs : flatL g R (wipeE ρ vs) ds = some xs) (gx : GX D' Hf1 H1 Hf1 H4) (hf : Hf1 D' = none) (hh : H4 D' = some (.lst us)) (r : RpAll X.K φ Hf1 acc us) (hl : acc.length + xs.length ≤ sizeLine)
    (k : ∀ Hf' H' us', GX D' Hf1 H1 Hf' H' → Hf' D' = none → H' D' = some (.lst us') → RpAll X.K φ Hf' (acc ++ xs) us' → Nx H') :
    ∃ W : Nat → Nat → Hp → Prop, (∃ m, W 0 m H4) ∧ ∀ j k H, W j k H →
      (J.stop j H ∧ Nx H) ∨ (J.go j H ∧ ∃ Nx1 : Hp → Prop, (∀ H', Nx1 H' → ∃ k', k' < k ∧ W (j + 1) k' H') ∧ ∀ x H', J.yld j H x H' → uG X scope tg x (L2.wipe σ vs) H' fun σ3 H5 => L2.wipe σ3 vs = L2.wipe σ vs ∧ tYes σ3 H5 fun b H6 =>
        if b = true then tIn (uE X scope elt) D' ls Nx1 σ3 H6 else Nx1 H6) := by
  refine ⟨fun i m H2 => m = ds.length - i ∧ i ≤ ds.length ∧ ∃ Hf2 acc2 us2 rest, GX D' Hf1 H1 Hf2 H2 ∧ Hf2 D' = none ∧ H2 D' = some (.lst us2) ∧ RpAll X.K φ Hf2 acc2 us2 ∧ flatL g R (wipeE ρ vs) (ds.drop i) = some rest ∧ acc2 ++ rest = acc ++ xs,
    ⟨ds.length, by simp, Nat.zero_le _, Hf1, acc, us, xs, gx, hf, hh, r, by simpa using hxs, rfl⟩, ?_⟩
  rintro i m H2 ⟨rfl, hil, Hf2, acc2, us2, rest, g2, hf2, hh2, r2, hrest, hsum⟩
  by_cases hlt : i < ds.length
  · right
    have hget : ds[i]? = some ds[i] := List.getElem?_eq_getElem hlt
    obtain ⟨hgo, hyld⟩ := (step i Hf2 H2 g2 hf2).2 _ hget
    refine ⟨hgo, fun H' => ∃ Hf3 acc' us' rest', GX D' Hf1 H1 Hf3 H' ∧ Hf3 D' = none ∧ H' D' = some (.lst us') ∧ RpAll X.K φ Hf3 acc' us' ∧ flatL g R (wipeE ρ vs) (ds.drop (i + 1)) = some rest' ∧ acc' ++ rest' = acc ++ xs,
      fun H' ⟨Hf3, acc', us', rest', a1, a2, a3, a4, a5, a6⟩ => ⟨ds.length - (i + 1), by omega, rfl, hlt, Hf3, acc', us', rest', a1, a2, a3, a4, a5, a6⟩, fun x H3 hy => ?_⟩
    obtain ⟨Hf3, g3, r3⟩ := hyld x H3 hy
    have hf3 := g3.n _ _ hh2 hf2
    have g13 := g2.trans (Gr.x g3) hf3
    have S3 := (S.gx h0 g13).wipe vs
    rw [List.drop_eq_getElem_cons hlt] at hrest
    unfold flatL at hrest
    split at hrest
    · cases hrest
    · rename_i ρ2 hρ2
      split at hrest
      · cases hrest
      · rename_i ys hys
        split at hrest
        · cases hrest
        · rename_i ys2 hys2
          cases hrest
          intro s0 h00 C0 cl0 fp0
          refine hg s0 h00 C0 cl0 fp0 φ Hf0 H0 _ _ Hf3 H3 _ x ρ2 _ S3 r3 hρ2 fun σ2 S4 w4 => ⟨(w4 vs htg).trans wipe_wipe, ?_⟩
          unfold tYes
          simp only [if_true]
          have hsz : acc2.length + ys.length ≤ sizeLine := by
            have := congrArg List.length hsum
            simp only [List.length_append] at this
            omega
          refine hr.2 φ Hf0 H0 ρ2 σ2 Hf3 H3 ys D' acc2 us2 _ h0 S4 hys hf3 (g3.h _ _ hh2) (r2.mono g3.f) hsz fun Hf4 H4 us4 g4 f4 h4 r4 => ?_
          exact ⟨Hf4, acc2 ++ ys, us4, ys2, g13.trans g4 f4, f4, h4, r4, hys2, by rw [List.append_assoc]; exact hsum⟩
  · left
    have hie : i = ds.length := by omega
    refine ⟨(step i Hf2 H2 g2 hf2).1 (by omega), ?_⟩
    subst hie
    rw [List.drop_length] at hrest
    cases hrest
    rw [List.append_nil] at hsum
    subst hsum
    exact k Hf2 H2 us2 g2 hf2 hh2 r2
theorem fr_cons {vs0 vs tgs : List Nat} {Fi : Env → Option (List D)} {g : D → Env → Option Env} (hi : ∀ s H C cl fp, FI (X.blk s H scope (compEnvC scope cl C X.env) fp) [] tg iter Fi) (hg : ∀ s H C cl fp, FG (X.blk s H scope (compEnvC scope cl C X.env) fp) [] [] tgs tg g)
    (htg : (tgs.all fun i => vs.contains i) = true) (hvs : (vs.all fun i => vs0.contains i) = true) (hr : FR X scope elt vs cs ls R) (hs : ∀ env x, foldedSetIterable iter env x = pure x := by intro _ _; rfl) :
    FR X scope elt vs0 (⟨tg, iter, [], 0⟩ :: cs) (⟨uI X scope tg iter, uG X scope tg, tYes, vs⟩ :: ls) (cF vs Fi g R) := by
  refine ⟨fun s H C cl fp => .cons ⟨rfl, hs _, ⟨fun pins s' σ H' R I h => (h s H C cl fp).h pins s' I⟩, ⟨fun pins s' σ H' v u Q I r h => (h s H C cl fp).h pins s' u I r⟩, pts_nil⟩ (fun i hi => by simpa using (List.all_eq_true.mp hvs) i hi) (hr.1 s H C cl fp), fun φ Hf0 H0 ρ σ Hf H xs D' acc us Nx h0 S hF hf hh r hl k => ?_⟩
  unfold cF at hF
  split at hF
  · rename_i ds hds
    intro s0 h00 C0 cl0 fp0
    refine hi s0 h00 C0 cl0 fp0 φ Hf0 H0 ρ σ Hf H ds _ S hds fun J Hf1 H1 g1 itd => ?_
    have hf1 := g1.n _ _ hh hf
    exact loop_it hg (fun i hi => by simpa using (List.all_eq_true.mp htg) i hi) hr h0 (S.gr g1) (fun i Hf2 H2 g2 _ => itd i Hf2 H2 g2.f g2.s) hF (Gr.x (Gr.refl g1.s)) hf1 (g1.h _ _ hh) (r.mono g1.f) hl
      fun Hf' H' us' g' f' h' r' => k Hf' H' us' ((Gr.x g1).trans g' f') f' h' r'
  · cases hF
theorem fn_lcN {O' tgs : List Nat} {Fi : Env → Option (List D)} {g : D → Env → Option Env} (hc : X.calm = true) (hN : X.N.Nodup) (ok : BlkOk X.N X.env.scope scope own)
    (hi : FIB X O tg iter Fi) (hg : ∀ s H C cl fp, FG (X.blk s H scope (compEnvC scope cl C X.env) fp) [] [] tgs tg g) (htg : (tgs.all fun i => (own.map (·.2)).contains i) = true) (hr : FR X scope elt (own.map (·.2)) cs ls R) (hO : (O.all fun i => O'.contains i) = true) (hs : ∀ x, foldedSetIterable iter X.env x = pure x := by intro _; rfl) :
    FN X O (.ListComp elt (⟨tg, iter, [], 0⟩ :: cs) scope pos) (eCompN O' (own.map (·.2)) Fi g R) := by
  intro φ Hf0 H0 ρ σ Hf H d Q S hF k
  refine toE (pe_lcN (l := ⟨wI X tg iter, uG X scope tg, tYes, own.map (·.2)⟩) (ls := ls) (te := uE X scope elt) hc hN piW ok rfl hs (fun s H C cl fp => ⟨fun pins s' σ H' v u Q I r h => (h s H C cl fp).h pins s' u I r⟩) (fun _ _ _ _ _ => pts_nil) (fun s H C cl fp => ⟨fun pins s' σ H' Q I h => (h s H C cl fp).h pins s' I⟩) hr.1) ?_
  unfold eCompN at hF
  split at hF
  · rename_i ds hds
    split at hF
    · rename_i ys hys
      split at hF
      · rename_i hlen
        cases hF
        refine hi φ Hf0 H0 ρ σ Hf H ds _ S hds fun J Hf1 H1 g1 itb => ?_
        intro Dn hDn
        have hf1 : Hf1 Dn = none := g1.s.free hDn
        have h0 : H0 Dn = none := S.gh.free (g1.h.free hDn)
        refine loop_it (acc := []) (us := []) (xs := ys) hg (fun i hi => by simpa using (List.all_eq_true.mp htg) i hi) hr h0 ((S.gr g1).drop hO) (fun i Hf2 H2 g2 _ => itb i Hf2 H2 ⟨g2.f, fun b o e => g2.h b o (ne_of_none e hDn) e, g2.s, g2.n⟩) hys (GX.put g1.s hf1) hf1 upd_same .nil (by simpa using hlen) ?_
        intro Hf' H' us' g' f' h' r'
        exact k Dn ys us' Hf' H' rfl (g1.trans ⟨g'.f, fun b o e => g'.h b o (ne_of_none e hDn) e, g'.s, g'.n⟩) (g1.h.free hDn) f' h' r'
      · cases hF
    · cases hF
  · cases hF
end
end FL
namespace FL
open PySem L2
section
variable {X : Cx} {fr : Bool} {L O : List Nat} {pos : Pos}
/-- xs.m() as a statement -/
theorem fs_mut0 {i : Nat} {x : Str} {name : Str} {bid : String} {xpos apos cpos : Pos} {r : V → List V → Hp → VK → Prop} {f : List D → List D → Option (List D)} (hN : X.N[i]? = some x) (hv : Vis X.env.scope x) (hO : O.contains i = true)
    (slot : Slot "list" name bid) (hty : typeOf (.builtin bid) = pure (.type "method_descriptor")) (hm : MtR X bid r)
    (hr : ∀ (φ : Nat → Option Addr) (Hf H : Hp) (a : Addr) (xs ys : List D) (vs : List V) (Q : VK), H a = some (.lst vs) → RpAll X.K φ Hf xs vs → f xs [] = some ys → (∀ z ws, RpAll X.K φ Hf ys ws → Q z (upd H a (.lst ws))) → r (.ref a) [] H Q)
    (hd : (x == ("__debug__" : Str)) = false := by decide +kernel) (hcd : (x == ("__classdict__" : Str)) = false := by decide +kernel)
    (hbase : attributeBase (.Name x xpos) name X.env (eval (.Name x xpos) X.env) = eval (.Name x xpos) X.env := by rfl)
    (hsx : swapsWith (.Call (.Attribute (.Name x xpos) name apos) [] [] cpos) none pos.line X.env = pure false := by rfl) (hline : (apos.endLine == cpos.line) = true := by rfl) :
    FS X fr L O O (.Expr (.Call (.Attribute (.Name x xpos) name apos) [] [] cpos) pos) (sMut i f aNil) := fun φ Hf0 H0 ρ σ Hf H out Dn S hF P => by
  have hn : aNil ρ = some [] := rfl
  unfold sMut at hF
  rw [hn] at hF
  simp only at hF
  split at hF
  · rename_i xs hxs
    split at hF
    · rename_i ys hys
      cases hF
      have hq : ρ[i]? = some (some (.lst xs)) := by
        unfold eVar at hxs
        split at hxs
        · rename_i d' h; cases hxs; exact h
        · cases hxs
      have hO' : i ∈ O := by simpa using hO
      obtain ⟨a, xs', vs, e1, e2, e3, e4, e5, r0⟩ := S.own i _ hq hO'
      cases e1
      refine toS (ps_expr (pe_bm0 PySem.F.plainAttrs_list slot hty hm (pe_var hN hv hd hcd) hbase hline) hsx) ?_
      refine ⟨_, e2, .inl ⟨rfl, vs, .inl (.inl e3)⟩, ?_⟩
      refine hr φ Hf H a xs ys vs _ e3 r0 hys fun z ws rw' => ?_
      exact P σ Hf _ (Same.refl _) (S.mut hq hO' e2 rw')
    · cases hF
  · cases hF
def popF : List D → List D → Option (List D) := fun xs ds => match ds with | [] => if xs.length = 0 then none else some (xs.take (xs.length - 1)) | _ => none
theorem r_pop {K : PySem.W.Frag} : ∀ (φ : Nat → Option Addr) (Hf H : Hp) (a : Addr) (xs ys : List D) (vs : List V) (Q : VK), H a = some (.lst vs) → RpAll K φ Hf xs vs → popF xs [] = some ys → (∀ z ws, RpAll K φ Hf ys ws → Q z (upd H a (.lst ws))) → rPop (.ref a) [] H Q :=
  fun φ Hf H a xs ys vs Q h r e k => by
    unfold popF at e
    simp only at e
    split at e
    · cases e
    · rename_i hl
      cases e
      have hlen := r.length
      have hlt : vs.length - 1 < vs.length := by omega
      refine ⟨a, vs, vs[vs.length - 1], rfl, rfl, h, List.getElem?_eq_getElem hlt, k _ _ ?_⟩
      rw [List.dropLast_eq_take, ← hlen]
      exact r.take _
end
end FL
namespace FL
open PySem L2
/-! ### methods of strs and lists as expressions -/
/-- o.m(args): F the receiver's mirror, Fs the arguments' -/
def eM (f : D → List D → Option D) (F : Env → Option D) (Fs : Env → Option (List D)) : Env → Option D := fun ρ =>
  match F ρ with | some x => (match Fs ρ with | some ds => f x ds | none => none) | none => none
/-- what a method's rule must say: T, the receiver's type -/
def OpM (K : PySem.W.Frag) (T : String) (r : V → List V → Hp → VK → Prop) (f : D → List D → Option D) : Prop :=
  ∀ (φ : Nat → Option Addr) (Hf H Hf1 H1 : Hp) (x : D) (ds : List D) (d : D) (v : V) (vs : List V) (Q : VK), Same Hf H → Gr Hf H Hf1 H1 → Rpb K φ Hf H x v → RpbAll K φ Hf1 H1 ds vs → f x ds = some d →
    (∀ u Hf' H', Gr Hf1 H1 Hf' H' → Rp K φ Hf' d u → Q u H') → r v vs H1 Q
section
variable {X : Cx} {fr : Bool} {L O O' : List Nat} {o e : Expr} {es : List Expr} {F : Env → Option D} {Fs : Env → Option (List D)}
/-- a statement that is never reached -/
theorem fs_dead {st : Stmt} : FS X fr L O O' st (fun _ => none) := fun φ Hf0 H0 ρ σ Hf H out Dn S hF P => nomatch hF
theorem fe_meth {name : Str} {T bid : String} {apos cpos : Pos} {r : V → List V → Hp → VK → Prop} {f : D → List D → Option D} (pa : PySem.PlainAttrs T) (slot : Slot T name bid) (hty : typeOf (.builtin bid) = pure (.type "method_descriptor")) (hm : MtR X bid r) (hop : OpM X.K T r f)
    (hT : ∀ (φ : Nat → Option Addr) (Hf H : Hp) (x : D) (ds : List D) (d : D) (v : V), Same Hf H → Rpb X.K φ Hf H x v → f x ds = some d → tyV X.K T v H) (ho : FB X O o F) (ha : FBA X O (e :: es) Fs)
    (hbase : attributeBase o name X.env (eval o X.env) = eval o X.env := by rfl)
    (hfew : ((backTo cpos (starEach (e :: es) X.env)).all (fun x => !x.1) && (backToKw cpos (keywordEach [] X.env)).all (fun x => x.1.isSome) && decide ((e :: es).length + ([] : List Keyword).length + (if ([] : List Keyword).isEmpty then 0 else 1) < 30)) = true := by rfl)
    (hline : (apos.endLine == cpos.line) = true := by rfl) (hs : starEach (e :: es) X.env = (false, eval e X.env) :: starEach es X.env := by rfl) (hplain : (backTo cpos (starEach es X.env)).any (·.1) = false := by rfl) :
    FE X O (.Call (.Attribute o name apos) (e :: es) [] cpos) (eM f F Fs) := by
  intro φ Hf0 H0 ρ σ Hf H d Q S hF k
  unfold eM at hF
  split at hF
  · rename_i x hx
    split at hF
    · rename_i ds hds
      refine toE (pe_bm pa slot hty hm peW paW hbase hfew hline hs hplain) ?_
      refine ho φ Hf0 H0 ρ σ Hf H x _ S hx fun v Hf1 H1 g1 r1 => ?_
      refine ⟨hT φ Hf1 H1 x ds d v g1.s r1 hF, ?_⟩
      refine ha φ Hf0 H0 ρ σ Hf1 H1 ds _ (S.gr g1) hds fun vs Hf2 H2 g2 r2 => ?_
      exact hop φ Hf1 H1 Hf2 H2 x ds d v vs Q g1.s g2 r1 r2 hF fun u Hf' H' g' r' => k u Hf' H' (g1.trans (g2.trans g')) r'
    · cases hF
  · cases hF
def strsD : List D → Option (List Str)
  | [] => some [] | .str z :: ds => (match strsD ds with | some zs => some (z :: zs) | none => none) | _ :: _ => none
theorem strs_rp {K : PySem.W.Frag} {φ : Nat → Option Addr} {Hf : Hp} : ∀ {ds : List D} {zs : List Str} {vs : List V}, strsD ds = some zs → RpAll K φ Hf ds vs → vs = zs.map V.str
  | [], _, _, h, .nil => by cases h; rfl
  | .str z :: ds, zs, _, h, .cons r t => by
    unfold strsD at h
    split at h
    · rename_i ws hw
      cases h
      cases r
      rw [strs_rp hw t]
      rfl
    · cases h
  | .non :: _, _, _, h, _ => by cases h
  | .bl _ :: _, _, _, h, _ => by cases h
  | .int _ :: _, _, _, h, _ => by cases h
  | .tup _ :: _, _, _, h, _ => by cases h
  | .lst _ :: _, _, _, h, _ => by cases h
  | .klst _ :: _, _, _, h, _ => by cases h
  | .obj _ :: _, _, _, h, _ => by cases h
  | .ins _ _ _ :: _, _, _, h, _ => by cases h
  | .dct _ _ :: _, _, _, h, _ => by cases h
def joinD (x : D) (ds : List D) : Option D := match x, ds with
  | .str a, [y] => (match seqD y with
    | some ys => (match strsD ys with | some zs => if (zs.map (·.length)).sum + zs.length * a.length ≤ 16777216 then some (.str (Txt.join a zs)) else none | none => none)
    | none => none)
  | _, _ => none
theorem join_op {K : PySem.W.Frag} : OpM K "str" (fun x xs H Q => ∃ a p, ∃ ys : List Str, x = .str a ∧ xs = [.ref p] ∧ (SqL K H p (ys.map V.str) ∨ SqT K H p (ys.map V.str)) ∧ (ys.map (·.length)).sum + ys.length * a.length ≤ 16777216 ∧ Q (.str (Txt.join a ys)) H) joinD := by
  intro φ Hf H Hf1 H1 x ds d v vs Q s g r1 r2 h k
  unfold joinD at h
  split at h
  · rename_i a y
    split at h
    · rename_i ys hy
      split at h
      · rename_i zs hz
        split at h
        · rename_i room
          cases h
          obtain ⟨u, rfl, ru⟩ := r2.one
          obtain ⟨p, ws, rfl, hp, rw'⟩ := Rpb.seq g.s ru hy
          have e := strs_rp hz rw'
          subst e
          have hv : v = .str a := by
            rcases r1 with r | ⟨_, _, _, e1, _⟩
            · cases r; rfl
            · cases e1
          exact ⟨a, p, zs, hv, rfl, hp, room, k _ Hf1 H1 (.refl g.s) (.str _)⟩
        · cases h
      · cases h
    · cases h
  · cases h
theorem fe_joined {apos cpos : Pos} (ho : FB X O o F) (ha : FBA X O [e] Fs) (hbase : attributeBase o "join" X.env (eval o X.env) = eval o X.env := by rfl)
    (hfew : ((backTo cpos (starEach [e] X.env)).all (fun x => !x.1) && (backToKw cpos (keywordEach [] X.env)).all (fun x => x.1.isSome) && decide ([e].length + ([] : List Keyword).length + (if ([] : List Keyword).isEmpty then 0 else 1) < 30)) = true := by rfl)
    (hline : (apos.endLine == cpos.line) = true := by rfl) (hs : starEach [e] X.env = (false, eval e X.env) :: starEach [] X.env := by rfl) : FE X O (.Call (.Attribute o "join" apos) [e] [] cpos) (eM joinD F Fs) :=
  fe_meth PySem.F.plainAttrs_str PySem.F.slot_str_join PySem.F.type_str_join mt_join join_op (fun φ Hf H x ds d v s r h => by
    unfold joinD at h
    split at h
    · rcases r with r | ⟨_, _, _, e1, _⟩
      · cases r; rfl
      · cases e1
    · cases h) ho ha hbase hfew hline hs
end
end FL
namespace FL
open PySem L2
section
variable {X : Cx} {O : List Nat} {o e : Expr} {es : List Expr} {F : Env → Option D} {Fs : Env → Option (List D)}
theorem rp_strs {K : PySem.W.Frag} {φ : Nat → Option Addr} {Hf : Hp} : ∀ zs : List Str, RpAll K φ Hf (zs.map D.str) (zs.map V.str)
  | [] => .nil
  | z :: zs => .cons (.str z) (rp_strs zs)
/-- line.split(sep): a new list -/
def splitD (x : D) (ds : List D) : Option D := match x, ds with
  | .str a, [.str b] => if (b.length == 0) = false ∧ a.length + 2 ≤ sizeLine then some (.lst ((Txt.split a b).map D.str)) else none
  | _, _ => none
theorem fn_split {apos cpos : Pos} (ho : FB X O o F) (ha : FBA X O [e] Fs) (hbase : attributeBase o "split" X.env (eval o X.env) = eval o X.env := by rfl)
    (hfew : ((backTo cpos (starEach [e] X.env)).all (fun x => !x.1) && (backToKw cpos (keywordEach [] X.env)).all (fun x => x.1.isSome) && decide ([e].length + ([] : List Keyword).length + (if ([] : List Keyword).isEmpty then 0 else 1) < 30)) = true := by rfl)
    (hline : (apos.endLine == cpos.line) = true := by rfl) (hs : starEach [e] X.env = (false, eval e X.env) :: starEach [] X.env := by rfl) : FN X O (.Call (.Attribute o "split" apos) [e] [] cpos) (eM splitD F Fs) := by
  intro φ Hf0 H0 ρ σ Hf H d Q S hF k
  unfold eM at hF
  split at hF
  · rename_i x hx
    split at hF
    · rename_i ds hds
      unfold splitD at hF
      split at hF
      · rename_i a b
        split at hF
        · rename_i room
          cases hF
          refine toE (pe_bm PySem.F.plainAttrs_str PySem.F.slot_str_split PySem.F.type_str_split mt_split peW paW hbase hfew hline hs) ?_
          refine ho φ Hf0 H0 ρ σ Hf H _ _ S hx fun v Hf1 H1 g1 r1 => ?_
          cases r1.str
          refine ⟨rfl, ha φ Hf0 H0 ρ σ Hf1 H1 _ _ (S.gr g1) hds fun vs Hf2 H2 g2 r2 => ?_⟩
          obtain ⟨u, rfl, ru⟩ := r2.one
          cases ru.str
          refine ⟨a, b, rfl, rfl, room.1, room.2, fun p hp => ?_⟩
          have g := g1.trans g2
          exact k p _ _ Hf2 _ rfl (g.trans (.own g2.s hp)) (g.h.free hp) (g2.s.free hp) upd_same (rp_strs _)
        · cases hF
      · cases hF
    · cases hF
  · cases hF
/-- the first place of a flat item -/
def idxD (y : D) : List D → Option Nat
  | [] => none
  | z :: zs => if deq z y = true then some 0 else (match idxD y zs with | some k => some (k + 1) | none => none)
def indexD (x : D) (ds : List D) : Option D := match ds with
  | [y] => if isLst x && flatD y then (match seqD x with | some xs => if xs.all flatD then (match idxD y xs with | some k => some (.int (k : Nat)) | none => none) else none | none => none) else none
  | _ => none
theorem idx_ok {K : PySem.W.Frag} {φ : Nat → Option Addr} {Hf H2 : Hp} {y : D} {u : V} (q : Rp K φ H2 y u) (hy : flatD y = true) : ∀ {xs : List D} {vs : List V} {k : Nat}, xs.all flatD = true → RpAll K φ Hf xs vs → idxD y xs = some k →
    (∃ z, vs[k]? = some z ∧ eqV z u = true) ∧ ∀ (m : Nat) (z' : V), m < k → vs[m]? = some z' → eqV z' u = false
  | x :: xs, _, k, hf, .cons (v := v) (vs := vs) r t, h => by
    simp only [List.all_cons, Bool.and_eq_true] at hf
    have e := eqV_deq r q hf.1 hy
    unfold idxD at h
    split at h
    · rename_i hd
      cases h
      exact ⟨⟨v, rfl, by rw [e]; exact hd⟩, fun m z' hm => absurd hm (Nat.not_lt_zero _)⟩
    · rename_i hd
      split at h
      · rename_i j hj
        cases h
        obtain ⟨⟨z, h1, h2⟩, h3⟩ := idx_ok q hy hf.2 t hj
        refine ⟨⟨z, h1, h2⟩, fun m z' hm hz => ?_⟩
        cases m with
        | zero => cases hz; rw [e]; simpa using hd
        | succ m => exact h3 m z' (Nat.lt_of_succ_lt_succ hm) hz
      · cases h
theorem index_op {K : PySem.W.Frag} : OpM K "list" (rIndex K) indexD := by
  intro φ Hf H Hf1 H1 x ds d v vs Q s g r1 r2 h k
  unfold indexD at h
  split at h
  · rename_i y
    split at h
    · rename_i hc
      simp only [Bool.and_eq_true] at hc
      split at h
      · rename_i xs hxs
        split at h
        · rename_i hall
          split at h
          · rename_i j hj
            cases h
            obtain ⟨u, rfl, ru⟩ := r2.one
            have ru' : Rp K φ Hf1 y u := by
              rcases ru with r | ⟨_, _, _, e1, _⟩
              · exact r
              · rw [e1] at hc; cases hc.2
            obtain ⟨p, ws, hv, hL, rw'⟩ := isLst_sq g.s (r1.gr g) hc.1 hxs
            have fl : ∀ {xs : List D} {ws : List V}, RpAll K φ Hf1 xs ws → xs.all flatD = true → ws.all flatV = true := by
              intro xs ws r
              induction ws generalizing xs with
              | nil => intro _; rfl
              | cons w ws ih =>
                cases r with
                | cons r t =>
                  intro h
                  simp only [List.all_cons, Bool.and_eq_true] at h ⊢
                  refine ⟨?_, ih t h.2⟩
                  cases r <;> first | rfl | cases h.1
            have flu : flatV u = true := by
              have := fl (.one ru') (show [y].all flatD = true by simp [hc.2])
              simpa using this
            obtain ⟨⟨z, h1, h2⟩, h3⟩ := idx_ok ru' hc.2 hall rw' hj
            exact ⟨p, ws, u, j, z, hv, rfl, hL, flu, fl rw' hall, h1, h2, h3, k _ Hf1 H1 (.refl g.s) (.int _)⟩
          · cases h
        · cases h
      · cases h
    · cases h
  · cases h
theorem fe_indexed {apos cpos : Pos} (ho : FB X O o F) (ha : FBA X O [e] Fs) (hbase : attributeBase o "index" X.env (eval o X.env) = eval o X.env := by rfl)
    (hfew : ((backTo cpos (starEach [e] X.env)).all (fun x => !x.1) && (backToKw cpos (keywordEach [] X.env)).all (fun x => x.1.isSome) && decide ([e].length + ([] : List Keyword).length + (if ([] : List Keyword).isEmpty then 0 else 1) < 30)) = true := by rfl)
    (hline : (apos.endLine == cpos.line) = true := by rfl) (hs : starEach [e] X.env = (false, eval e X.env) :: starEach [] X.env := by rfl) : FE X O (.Call (.Attribute o "index" apos) [e] [] cpos) (eM indexD F Fs) :=
  fe_meth PySem.F.plainAttrs_list PySem.F.slot_list_index PySem.F.type_list_index mt_index index_op (fun φ Hf H x ds d v s r h => by
    unfold indexD at h
    split at h
    · split at h
      · rename_i hc
        simp only [Bool.and_eq_true] at hc
        split at h
        · rename_i xs hxs
          obtain ⟨p, ws, rfl, hL, _⟩ := isLst_sq s r hc.1 hxs
          exact .inl ⟨rfl, ws, hL⟩
        · cases h
      · cases h
    · cases h) ho ha hbase hfew hline hs
end
end FL
namespace FL
open PySem PySem.Spec L2

/-! ### defs that yield -/
def wY (X : Cx) (st : Stmt) : TGn := fun D ys σ H => Lk (∀ (A : Around) (S : Addr) (ip : List (Addr × Obj)) (R : GenEnd) (n : Nat) (s₀ : Shared) (c : Code) (fs : List Frame) (K : Flow → Sem PySem.Fin) (J : Value → Sem PySem.Fin) (gd : Bool → Bool) (lv : List Value → List Value) (s : Shared),
  GC X S ip A c fs gd → n + ys.length = sizeLine → GK X S ip A R c fs K J D → GI X S ip ys σ H s → Seg (model X.prog X.w) A R (GY X S) n s₀ c ((exec st X.env).wrap K J gd lv) fs s)
def wYs (X : Cx) (st : List Stmt) : TGn := fun D ys σ H => Lk (∀ (A : Around) (S : Addr) (ip : List (Addr × Obj)) (R : GenEnd) (n : Nat) (s₀ : Shared) (c : Code) (fs : List Frame) (K : Flow → Sem PySem.Fin) (J : Value → Sem PySem.Fin) (gd : Bool → Bool) (lv : List Value → List Value) (s : Shared),
  GC X S ip A c fs gd → n + ys.length = sizeLine → GK X S ip A R c fs K J D → GI X S ip ys σ H s → Seg (model X.prog X.w) A R (GY X S) n s₀ c ((execs st X.env).wrap K J gd lv) fs s)
section
variable {X : Cx} {st : Stmt} {sts : List Stmt} {ys : List V} {σ : L2.St} {H : Hp} {D : GEnds}
theorem gsW : GS X st (wY X st) := ⟨fun A S ip R n ys s₀ c fs K J gd lv s σ H D g hn k hI ht => ht.h A S ip R n s₀ c fs K J gd lv s g hn k hI⟩
theorem gssW : GSs X sts (wYs X sts) := ⟨fun A S ip R n ys s₀ c fs K J gd lv s σ H D g hn k hI ht => ht.h A S ip R n s₀ c fs K J gd lv s g hn k hI⟩
theorem toY {t : TGn} (h : GS X st t) (q : t D ys σ H) : wY X st D ys σ H := ⟨fun A S ip R n s₀ c fs K J gd lv s g hn k hI => h.run A S ip R n ys s₀ c fs K J gd lv s σ H D g hn k hI q⟩
theorem toYs {t : TGn} (h : GSs X sts t) (q : t D ys σ H) : wYs X sts D ys σ H := ⟨fun A S ip R n s₀ c fs K J gd lv s g hn k hI => h.run A S ip R n ys s₀ c fs K J gd lv s σ H D g hn k hI q⟩
def tGIf (tc : TT) (t u : TGn) : TGn := fun D ys σ H => tc σ H fun b H1 => if b = true then t D ys σ H1 else u D ys σ H1
theorem gs_if {c : Expr} {a b : List Stmt} {pos : Pos} {tc : TT} {t u : TGn} (hc : PT X c tc) (ha : GSs X a t) (hb : GSs X b u) : GS X (.If c a b pos) (tGIf tc t u) := by
  refine ⟨fun A S ip R n ys s₀ c' fs K J gd lv s σ H D g hn k hI ht => ?_⟩
  show Seg _ _ _ _ n s₀ c' (.at pos fun _ => (isTrue c X.env (eval c X.env) >>= fun b' => if b' = true then execs a X.env else execs b X.env).wrap K J gd lv) fs s
  refine seg_at ?_
  obtain ⟨acc, cc, r, I⟩ := hI
  refine seg_bind_wrap ?_
  rw [g.over]
  refine wpAny_mono (hc.run _ s σ H _ I ht) (fun d s1 hd => ?_) fun x s' hx => k.exc n s₀ x s' hx
  obtain ⟨H1, I1, q⟩ := hd
  cases d with
  | true => exact ha.run A S ip R n ys s₀ c' fs K J gd lv s1 σ H1 D g hn k ⟨acc, cc, r, I1⟩ q
  | false => exact hb.run A S ip R n ys s₀ c' fs K J gd lv s1 σ H1 D g hn k ⟨acc, cc, r, I1⟩ q
end
/-- acc: what is out so far -/
inductive GO where
  | nx (acc : List D) (ρ : Env) | rt (acc : List D)
def GPost (K : PySem.W.Frag) (φ : Nat → Option Addr) (Hf0 H0 : Hp) (O : List Nat) (Hf : Hp) (Dn : GEnds) : GO → Prop
  | .nx acc ρ => ∀ σ' Hf' H' zs, Same Hf Hf' → SR K φ Hf0 H0 O ρ σ' Hf' H' → RpAll K φ Hf' acc zs → Dn.nx zs σ' H'
  | .rt acc => ∀ Hf' H' zs, Gr Hf0 H0 Hf' H' → RpAll K φ Hf' acc zs → Dn.rt zs .non H'
theorem GPost.mono {K : PySem.W.Frag} {φ : Nat → Option Addr} {Hf0 H0 : Hp} {O : List Nat} {Hf Hf1 : Hp} {Dn : GEnds} (s : Same Hf Hf1) : ∀ {out : GO}, GPost K φ Hf0 H0 O Hf Dn out → GPost K φ Hf0 H0 O Hf1 Dn out
  | .nx _ _, h => fun σ' Hf' H' zs s' => h σ' Hf' H' zs (s.trans s')
  | .rt _, h => h
def FY (X : Cx) (O O' : List Nat) (st : Stmt) (G : List D → Env → Option GO) : Prop :=
  ∀ (φ : Nat → Option Addr) (Hf0 H0 : Hp) (ρ : Env) (σ : L2.St) (Hf H : Hp) (acc : List D) (zs : List V) (out : GO) (Dn : GEnds), SR X.K φ Hf0 H0 O ρ σ Hf H → RpAll X.K φ Hf acc zs → G acc ρ = some out → GPost X.K φ Hf0 H0 O' Hf Dn out → wY X st Dn zs σ H
def FYs (X : Cx) (O O' : List Nat) (sts : List Stmt) (G : List D → Env → Option GO) : Prop :=
  ∀ (φ : Nat → Option Addr) (Hf0 H0 : Hp) (ρ : Env) (σ : L2.St) (Hf H : Hp) (acc : List D) (zs : List V) (out : GO) (Dn : GEnds), SR X.K φ Hf0 H0 O ρ σ Hf H → RpAll X.K φ Hf acc zs → G acc ρ = some out → GPost X.K φ Hf0 H0 O' Hf Dn out → wYs X sts Dn zs σ H
def yNil : List D → Env → Option GO := fun acc ρ => some (.nx acc ρ)
def yRet : List D → Env → Option GO := fun acc ρ => some (.rt acc)
def ySeq (F G : List D → Env → Option GO) : List D → Env → Option GO := fun acc ρ => match F acc ρ with | some (.nx acc' ρ') => G acc' ρ' | o => o
def yPl (F : Env → Option Out) : List D → Env → Option GO := fun acc ρ => match F ρ with | some (.nx ρ') => some (.nx acc ρ') | _ => none
def yOut (F : Env → Option D) : List D → Env → Option GO := fun acc ρ => match F ρ with | some d => if acc.length < sizeLine then some (.nx (acc ++ [d]) ρ) else none | none => none
def yIf (C : Env → Option Bool) (F G : List D → Env → Option GO) : List D → Env → Option GO := fun acc ρ => match C ρ with | some true => F acc ρ | some false => G acc ρ | none => none
section
variable {X : Cx} {O O' O1 : List Nat} {st : Stmt} {sts : List Stmt} {e : Expr} {pos yp : Pos} {F : Env → Option D} {G G2 : List D → Env → Option GO}
theorem fys_nil : FYs X O O [] yNil := fun φ Hf0 H0 ρ σ Hf H acc zs out Dn S r h P => by
  cases h
  exact toYs gss_nil (P σ Hf H zs (Same.refl _) S r)
theorem fys_cons (h : FY X O O1 st G) (t : FYs X O1 O' sts G2) : FYs X O O' (st :: sts) (ySeq G G2) := fun φ Hf0 H0 ρ σ Hf H acc zs out Dn S r hF P => by
  refine toYs (gss_cons gsW gssW) ?_
  unfold ySeq at hF
  split at hF
  · rename_i acc' ρ' h1
    exact h φ Hf0 H0 ρ σ Hf H acc zs _ _ S r h1 fun σ1 Hf1 H1 zs1 s1 S1 r1 => t φ Hf0 H0 ρ' σ1 Hf1 H1 acc' zs1 out Dn S1 r1 hF (P.mono s1)
  · rename_i hne
    refine h φ Hf0 H0 ρ σ Hf H acc zs out _ S r hF ?_
    cases out with
    | nx a ρ' => exact absurd hF (hne a ρ')
    | rt a => exact P
/-- forget that lists are our own, behind a block -/
theorem fys_to (h : FYs X O O1 sts G) (hL : O'.all (O1.contains ·) = true) : FYs X O O' sts G := fun φ Hf0 H0 ρ σ Hf H acc zs out Dn S r hF P => by
  refine h φ Hf0 H0 ρ σ Hf H acc zs out Dn S r hF ?_
  cases out with
  | nx a ρ' => exact fun σ' Hf' H' zs' s' S' r' => let ⟨Hf2, s2, S2⟩ := S'.weak O' hL; P σ' Hf2 H' zs' (s'.trans s2) S2 (RpAll.mono s2 r')
  | rt a => exact P
/-- a statement that hands out nothing and goes on -/
theorem fy_plain {F : Env → Option Out} (h : FS X false [] O O' st F) : FY X O O' st (yPl F) := fun φ Hf0 H0 ρ σ Hf H acc zs out Dn S r hF P => by
  refine toY (gs_ps psW) ?_
  unfold yPl at hF
  split at hF
  · rename_i ρ' h1
    cases hF
    exact h φ Hf0 H0 ρ σ Hf H _ (Dn.at zs) S h1 fun σ1 Hf1 H1 s1 S1 => P σ1 Hf1 H1 zs s1 S1 (RpAll.mono s1 r)
  · cases hF
theorem fy_ret : FY X O O' (.Return none pos) yRet := fun φ Hf0 H0 ρ σ Hf H acc zs out Dn S r hF P => by
  cases hF
  exact toY (gs_ps ps_retN) (P Hf H zs S.from0 r)
theorem fy_yield (h : FE X O e F) (hco : X.env.scope.isCoroutine = false := by rfl) (hi : interactive X.env = false := by rfl) : FY X O O (.Expr (.Yield (some e) yp) pos) (yOut F) := fun φ Hf0 H0 ρ σ Hf H acc zs out Dn S r hF P => by
  refine toY (gs_yield peW hco hi) ?_
  unfold yOut at hF
  split at hF
  · rename_i d h1
    split at hF
    · rename_i hl
      cases hF
      refine ⟨by rw [← r.length]; exact hl, ?_⟩
      exact h φ Hf0 H0 ρ σ Hf H d _ S h1 fun v Hf1 H1 g1 r1 => P σ Hf1 H1 (zs ++ [v]) g1.f (S.gr g1) ((r.mono g1.f).append (.one r1))
    · cases hF
  · cases hF
theorem fy_if {c : Expr} {T : Env → Option Bool} {a b : List Stmt} (h : FT X O c T) (h1 : FYs X O O' a G) (h2 : FYs X O O' b G2) : FY X O O' (.If c a b pos) (yIf T G G2) := fun φ Hf0 H0 ρ σ Hf H acc zs out Dn S r hF P => by
  refine toY (gs_if ptW gssW gssW) ?_
  unfold yIf at hF
  split at hF
  · rename_i hb
    exact h φ Hf0 H0 ρ σ Hf H true _ S hb fun Hf1 H1 g1 => iteT (h1 φ Hf0 H0 ρ σ Hf1 H1 acc zs out Dn (S.gr g1) (r.mono g1.f) hF (P.mono g1.f))
  · rename_i hb
    exact h φ Hf0 H0 ρ σ Hf H false _ S hb fun Hf1 H1 g1 => iteF (h2 φ Hf0 H0 ρ σ Hf1 H1 acc zs out Dn (S.gr g1) (r.mono g1.f) hF (P.mono g1.f))
  · cases hF
end
/-- the promise of a def that yields: m, its mirror, the list of all -/
def spY (K : PySem.W.Frag) (n : Nat) (m : List D → Option (List D)) : SpG := fun vs H Q _ => ∃ (φ : Nat → Option Addr) (Hf : Hp) (ds out : List D), Same Hf H ∧ RpAll K φ Hf ds vs ∧ ds.length = n ∧ m ds = some out ∧ ∀ Hf' H' zs, Gr Hf H Hf' H' → RpAll K φ Hf' out zs → Q zs H'
def runY (N n : Nat) (G : List D → Env → Option GO) (ds : List D) : Option (List D) := match G [] (envOf N n ds) with
  | some (.nx acc _) => some acc
  | some (.rt acc) => some acc
  | none => none
structure CalY (P : Program) (w : World) (K : PySem.W.Frag) (mg : Str → Option Value) (base : Heap) (k : Nat) (x : Str) (n : Nat) (m : List D → Option (List D)) : Prop where
  ok : ∃ (f : Addr) (fd : FuncData) (ps : List Str), GFn P w K mg base k f fd ps (spY K n m) ∧ mg x = some (.ref f) ∧ PySem.W.keepIn K (.ref f) = true ∧ Binds K fd ps []
section
variable {P : Program} {w : World} {K : PySem.W.Frag} {mg : Str → Option Value} {base : Heap} {k : Nat} {a : Addr} {ps N : List Str} {x : Str} {st : Stmt} {G : List D → Env → Option GO}
theorem calY_of {N' n : Nat} (Dd : DefAt K x st a) (g : mg x = some (.ref a)) (S : GScope N ps (defScope st)) (hN : N' = N.length) (hn : n = ps.length)
    (hbind : ∀ (kV doc pm : Value) (an : Option Addr) (cdv ct : Value) (us : List Value), us.length = ps.length → bindArgs (PySem.W.fnOf x x (defArgs st) (defBody st) (defScope st) .none kV doc pm an cdv ct) ⟨us, []⟩ = pure (ps.zip us))
    (O' : List Nat)
    (hb : ∀ (cdv : Value) (A : Around) (outer : List PySem.Env) (s : Shared) (H : Hp) (E : XK) (pn : List (Addr × Obj)), Room k (A.deeper (PyProof.Rows.envOfC x (defScope st) s.heap.objs.size a cdv)) →
      FYs (gcxOf P w K mg base N x (defScope st) a cdv A outer s H E pn) [] O' (defBody st) G) : CalY P w K mg base (k + 1) x n (runY N' n G) := by
  subst hN hn
  obtain ⟨fd, F⟩ := Dd
  have bN := FunD.bindsN F hbind
  obtain ⟨oc, od, dV, kV, doc, pm, an, cdv, ct, osl, rfl, lk, hcd, _, _⟩ := F.ex
  refine ⟨a, _, ps, gfn_of lk hcd S (fun vs H Q E h => ?_) (fun A outer s H vs Q E pn hr h => ?_), g, F.kp, bN⟩
  · obtain ⟨φ, Hf, ds, out, _, r, hl, _⟩ := h
    rw [← r.length]; exact hl
  · obtain ⟨φ, Hf, ds, out, hs, r, hl, hm, hk⟩ := h
    refine ⟨_, gssW, ?_⟩
    have hvl : vs.length = ps.length := by rw [← r.length]; exact hl
    unfold L2.start
    rw [hvl]
    unfold runY envOf at hm
    have S0 : SR K φ Hf H [] (ds.map some ++ List.replicate (N.length - ps.length) none) (vs.map some ++ List.replicate (N.length - ps.length) none) Hf H :=
      ⟨by simp [r.length], hs, Same.refl _, Same.refl _, fun _ _ _ z => z, fun i d e _ => r.val _ i d e, fun i d _ m => absurd m (by simp), fun i j _ _ _ _ _ m => absurd m (by simp)⟩
    split at hm
    · rename_i acc ρ' h'
      cases hm
      exact hb cdv A outer s H E pn hr φ Hf H _ _ Hf H [] [] _ _ S0 .nil h' fun σ' Hf' H' zs s' S' r' => hk Hf' H' zs S'.from0 r'
    · rename_i acc h'
      cases hm
      exact hb cdv A outer s H E pn hr φ Hf H _ _ Hf H [] [] _ _ S0 .nil h' fun Hf' H' zs g' r' => ⟨rfl, hk Hf' H' zs g' r'⟩
    · cases hm
end
section
variable {X : Cx} {O : List Nat} {es : List Expr} {e : Expr} {x nm : Str} {p p2 pos pos' : Pos} {Fs : Env → Option (List D)} {k j : Nat} {n : Nat} {m : List D → Option (List D)}
def mLY (n : Nat) (m : List D → Option (List D)) : List D → Option D := fun ds => if ds.length = n then (match m ds with | some out => some (.lst out) | none => none) else none
/-- list(x(..)), x a def that yields -/
theorem fn_listY (c : CalY X.prog X.w X.K X.mg X.base j x n m) (hr : Room k X.A) (hk : j + 3 ≤ k) (hg : Gl X x) (ha : FA X O (e :: es) Fs) (hgl : Gl X nm) (hmg : X.mg nm = none) (hv : bootBuiltins nm = some (.type "list")) (hnm : nm ≠ "__name__" := by decide) (hdn : (nm == ("__debug__" : Str)) = false := by decide)
    (hdb : (x == ("__debug__" : Str)) = false := by decide) (he : starEach (e :: es) X.env = (false, eval e X.env) :: starEach es X.env := by rfl)
    (hpl : (backTo pos' (starEach es X.env)).any (·.1) = false := by rfl) (he2 : starEach [.Call (.Name x p) (e :: es) [] pos'] X.env = (false, eval (.Call (.Name x p) (e :: es) [] pos') X.env) :: starEach [] X.env := by rfl) :
    FN X O (.Call (.Name nm p2) [.Call (.Name x p) (e :: es) [] pos'] [] pos) (eL (mLY n m) Fs) := by
  obtain ⟨f, fd, ps, F, hm, hkp, hb⟩ := c.ok
  intro φ Hf0 H0 ρ σ Hf H d Q S hF k'
  obtain ⟨ds, h1, h2⟩ := eL_some hF
  unfold mLY at h2
  split at h2
  · rename_i hl
    split at h2
    · rename_i out ho
      cases h2
      have hx : Passes (CX X.prog X.w) X (fun _ _ _ => False) := fun pins σ H s e s' I h => by
        obtain ⟨a, B, H', cls, d, _, _, _, _, _, _, _, z⟩ := h
        exact z.elim
      refine toE (pe_listG (k := j) (E := fun _ _ _ => False) (pgen_call F (hr.mono (by omega)) hg hm hkp hb .nil paW hdb he hpl) hx (fun _ _ _ z => z.elim) (hr.mono hk) hgl hmg hv hnm hdn he2) ?_
      refine ha φ Hf0 H0 ρ σ Hf H ds _ S h1 fun vs Hf1 H1 g1 r1 => ?_
      refine ⟨φ, Hf1, ds, out, g1.s, by rw [List.append_nil]; exact r1, hl, ho, fun Hf2 H2 zs g2 r2 q hq => ?_⟩
      have g3 : Gr Hf2 H2 Hf2 (upd H2 q (.lst zs)) := .own g2.s hq
      exact k' q out zs Hf2 _ rfl ((g1.trans g2).trans g3) ((g1.trans g2).h.free hq) (g2.s.free hq) upd_same r2
    · cases h2
  · cases h2
end
end FL
namespace FL
open PySem PySem.Spec L2

/-! ### objects that no one changes any more: attributes -/
def lkD (f : Str) : List Str → List D → Option D
  | g :: gs, d :: ds => if (f == g) = true then some d else lkD f gs ds
  | _, _ => none
theorem lkD_ok {K : PySem.W.Frag} {φ : Nat → Option Addr} {H : Hp} {f : Str} : ∀ (fs : List Str) {ds : List D} {vs : List V} {d : D}, RpAll K φ H ds vs → lkD f fs ds = some d → ∃ v, (fs.zip vs).lookup f = some v ∧ Rp K φ H d v
  | [], [], _, _, _, h => by cases h
  | [], _ :: _, _, _, _, h => by cases h
  | _ :: _, [], _, _, _, h => by cases h
  | g :: gs, d0 :: ds, _, d, .cons (v := v) (vs := vs) r t, h => by
    unfold lkD at h
    show ∃ u, List.lookup f ((g, v) :: gs.zip vs) = some u ∧ _
    rw [List.lookup_cons]
    cases e : f == g with
    | true =>
      rw [e, if_pos rfl] at h
      cases h
      exact ⟨v, rfl, r⟩
    | false =>
      rw [e, if_neg Bool.false_ne_true] at h
      exact lkD_ok gs t h
def fldD (c f : Str) : D → Option D
  | .ins c' fs xs => if c' = c then lkD f fs xs else none
  | _ => none
theorem zip_lookup_none {m : Str} : ∀ (fs : List Str) (vs : List V), fs.contains m = false → (fs.zip vs).lookup m = none
  | [], _, _ => rfl
  | _ :: _, [], _ => rfl
  | g :: gs, v :: vs, h => by
    have h' : m ≠ g ∧ gs.contains m = false := by simpa using h
    show List.lookup m ((g, v) :: gs.zip vs) = none
    rw [List.lookup_cons, beq_eq_false_iff_ne.mpr h'.1]
    exact zip_lookup_none gs vs h'.2
section
variable {X : Cx} {O : List Nat} {e o : Expr} {es : List Expr} {kws : List Keyword} {pos apos : Pos} {F Fo : Env → Option D} {Fs Gs : Env → Option (List D)} {c f m : Str} {k j n : Nat} {mir : List D → Option D} {df : List D}
theorem fldD_some {x d : D} (h : fldD c f x = some d) : ∃ fs xs, x = .ins c fs xs ∧ lkD f fs xs = some d := by
  cases x with
  | ins c' fs xs =>
    have h' : (if c' = c then lkD f fs xs else none) = some d := h
    by_cases hc : c' = c
    · subst hc
      rw [if_pos rfl] at h'
      exact ⟨fs, xs, rfl, h'⟩
    · rw [if_neg hc] at h'; cases h'
  | _ => cases h
theorem fe_fld (hc : Cls X.K (He.ga X.K c)) (hn : NoAttr X.K (He.ga X.K c) f) (h : FE X O e F) (hb : attributeBase e f X.env (eval e X.env) = eval e X.env := by rfl) : FE X O (.Attribute e f pos) (e1 (fldD c f) F) := by
  intro φ Hf0 H0 ρ σ Hf H d Q S hF q
  obtain ⟨x, h1, h2⟩ := e1_some hF
  obtain ⟨fs, xs, rfl, h3⟩ := fldD_some h2
  refine toE (pe_fld peW hb) ?_
  refine h φ Hf0 H0 ρ σ Hf H _ _ S h1 fun v Hf1 H1 g1 r1 => ?_
  cases r1 with
  | ins ha hl r =>
    obtain ⟨u, e1, e2⟩ := lkD_ok _ r h3
    exact ⟨_, _, _, _, u, rfl, g1.s _ _ ha, hc, hn, e1, q u Hf1 H1 g1 e2⟩
/-! ### methods -/
/-- o.m(..): df, what the defaults fill up -/
def eMe (c m : Str) (n : Nat) (mir : List D → Option D) (df : List D) (Fo : Env → Option D) (Fs : Env → Option (List D)) : Env → Option D := fun ρ => match Fo ρ with
  | some (.ins c' fs xs) => if c' = c then (if fs.contains m = false then (match Fs ρ with | some ds => mL n mir (.ins c' fs xs :: (ds ++ df)) | none => none) else none) else none
  | _ => none
theorem eMe_some {ρ : Env} {d : D} (h : eMe c m n mir df Fo Fs ρ = some d) : ∃ fs xs ds, Fo ρ = some (.ins c fs xs) ∧ fs.contains m = false ∧ Fs ρ = some ds ∧ (D.ins c fs xs :: (ds ++ df)).length = n ∧ mir (.ins c fs xs :: (ds ++ df)) = some d := by
  unfold eMe at h
  split at h
  · rename_i c' fs xs h1
    split at h
    · rename_i hc
      subst hc
      split at h
      · rename_i hm
        split at h
        · rename_i ds h2
          unfold mL at h
          split at h
          · rename_i hl
            exact ⟨fs, xs, ds, h1, hm, h2, hl, h⟩
          · cases h
        · cases h
      · cases h
    · cases h
  · cases h
structure CalM (P : Program) (w : World) (K : PySem.W.Frag) (mg : Str → Option Value) (base : Heap) (k : Nat) (c m : Str) (fr : Bool) (n : Nat) (mir : List D → Option D) (df : List D) : Prop where
  ok : ∃ (f : Addr) (fd : FuncData) (ps : List Str) (ds : List Value) (dvs : List V), FnOk P w K mg base CX0 k f fd ps (spF K fr n mir) ∧ Cls K (He.ga K c) ∧ Meth K (He.ga K c) m f ∧ Binds K fd ps ds ∧ Vals dvs ds ∧ ∀ φ H, RpAll K φ H df dvs
/-- n0 parameters by place, the others by their names -/
structure CalMk (P : Program) (w : World) (K : PySem.W.Frag) (mg : Str → Option Value) (base : Heap) (k : Nat) (c m : Str) (fr : Bool) (n : Nat) (mir : List D → Option D) (n0 : Nat) (ks : List Str) : Prop where
  ok : ∃ (f : Addr) (fd : FuncData) (ps : List Str) (g : List Value → List Value → List Value), FnOk P w K mg base CX0 k f fd ps (spF K fr n mir) ∧ Cls K (He.ga K c) ∧ Meth K (He.ga K c) m f ∧ KBn K fd ps (n0 + 1) ks g (fun vs zs => vs ++ zs)
theorem fe_ome {pl : Sem Bool} (cm : CalM X.prog X.w X.K X.mg X.base j c m false n mir df) (hr : Room k X.A) (hk : j ≤ k) (ho : FE X O o Fo) (ha : FA X O (e :: es) Fs)
    (hst : starEach (e :: es) X.env = (false, eval e X.env) :: starEach es X.env := by rfl) (hpl : (backTo pos (starEach es X.env)).any (·.1) = false := by rfl)
    (ht : eval (.Call (.Attribute o m apos) (e :: es) [] pos) X.env = (do
      let ov ← eval o X.env
      standAt apos.atName
      let (f, first) ← holding [ov] (getMethod ov m pl)
      callWith pos f first (backTo pos (starEach (e :: es) X.env)) (backToKw pos (keywordEach [] X.env))) := by rfl) : FE X O (.Call (.Attribute o m apos) (e :: es) [] pos) (eMe c m n mir df Fo Fs) := by
  obtain ⟨f, fd, ps, us, dvs, Fn, hc, hm, hb, hd, hdf⟩ := cm.ok
  intro φ Hf0 H0 ρ σ Hf H d Q S hF q
  obtain ⟨fs, xs, ds, h1, h2, h3, h4, h5⟩ := eMe_some hF
  refine toE (pe_meth (pl := pl) peW hc hm Fn (hr.mono hk) hb hd pass0 paW hst hpl ht) ?_
  refine ho φ Hf0 H0 ρ σ Hf H _ _ S h1 fun v Hf1 H1 g1 r1 => ?_
  cases r1 with
  | ins hi hl r =>
    refine ⟨_, _, _, rfl, g1.s _ _ hi, zip_lookup_none _ _ h2, ?_⟩
    refine ha φ Hf0 H0 ρ σ Hf1 H1 ds _ (S.gr g1) h3 fun vs Hf2 H2 g2 r2 => ?_
    exact ⟨φ, Hf2, _, d, g2.s, .cons ((Rp.ins hi hl r).mono g2.f) (r2.append (hdf φ Hf2)), h4, h5, fun z Hf3 H3 g3 r3 => q z Hf3 H3 ((g1.trans g2).trans g3) r3⟩
theorem fn_ome {pl : Sem Bool} (cm : CalM X.prog X.w X.K X.mg X.base j c m true n mir df) (hr : Room k X.A) (hk : j ≤ k) (ho : FE X O o Fo) (ha : FA X O (e :: es) Fs)
    (hst : starEach (e :: es) X.env = (false, eval e X.env) :: starEach es X.env := by rfl) (hpl : (backTo pos (starEach es X.env)).any (·.1) = false := by rfl)
    (ht : eval (.Call (.Attribute o m apos) (e :: es) [] pos) X.env = (do
      let ov ← eval o X.env
      standAt apos.atName
      let (f, first) ← holding [ov] (getMethod ov m pl)
      callWith pos f first (backTo pos (starEach (e :: es) X.env)) (backToKw pos (keywordEach [] X.env))) := by rfl) : FN X O (.Call (.Attribute o m apos) (e :: es) [] pos) (eMe c m n mir df Fo Fs) := by
  obtain ⟨f, fd, ps, us, dvs, Fn, hc, hm, hb, hd, hdf⟩ := cm.ok
  intro φ Hf0 H0 ρ σ Hf H d Q S hF q
  obtain ⟨fs, xs, ds, h1, h2, h3, h4, h5⟩ := eMe_some hF
  refine toE (pe_meth (pl := pl) peW hc hm Fn (hr.mono hk) hb hd pass0 paW hst hpl ht) ?_
  refine ho φ Hf0 H0 ρ σ Hf H _ _ S h1 fun v Hf1 H1 g1 r1 => ?_
  cases r1 with
  | ins hi hl r =>
    refine ⟨_, _, _, rfl, g1.s _ _ hi, zip_lookup_none _ _ h2, ?_⟩
    refine ha φ Hf0 H0 ρ σ Hf1 H1 ds _ (S.gr g1) h3 fun vs Hf2 H2 g2 r2 => ?_
    exact ⟨φ, Hf2, _, d, g2.s, .cons ((Rp.ins hi hl r).mono g2.f) (r2.append (hdf φ Hf2)), h4, h5, fun a ys ws Hf3 H3 hd g3 q1 q2 q3 r3 => q a ys ws Hf3 H3 hd ((g1.trans g2).trans g3) ((g1.trans g2).h.free q1) q2 q3 r3⟩
/-! keywords -/
def wK (X : Cx) (kws : List Keyword) : TA := fun σ H Q => Lk (∀ pos pins s, Inv X pins σ H s → wpAny (model X.prog X.w) X.A (evalAll ((backToKw pos (keywordEach kws X.env)).map (·.2))) (AP X pins σ Q) X.xe s)
theorem pkW : PK X kws (wK X kws) := ⟨fun pos pins s _ _ _ I h => h.h pos pins s I⟩
def FK (X : Cx) (O : List Nat) (kws : List Keyword) (F : Env → Option (List D)) : Prop :=
  ∀ (φ : Nat → Option Addr) (Hf0 H0 : Hp) (ρ : Env) (σ : L2.St) (Hf H : Hp) (ds : List D) (Q : List V → Hp → Prop), SR X.K φ Hf0 H0 O ρ σ Hf H → F ρ = some ds → (∀ vs Hf' H', Gr Hf H Hf' H' → RpAll X.K φ Hf' ds vs → Q vs H') → wK X kws σ H Q
theorem toK {t : TA} (h : PK X kws t) {σ : L2.St} {H : Hp} {Q : List V → Hp → Prop} (q : t σ H Q) : wK X kws σ H Q := ⟨fun pos pins s I => h.run pos pins s σ H Q I q⟩
theorem fk_nil : FK X O [] aNil := fun φ Hf0 H0 ρ σ Hf H d Q S hF q => by cases hF; exact toK pk_nil (q [] Hf H (.refl S.sub) .nil)
theorem fk_cons {nm : Option Str} {kp : Pos} (h : FE X O e F) (t : FK X O kws Gs) : FK X O (⟨nm, e, kp⟩ :: kws) (aCons F Gs) := by
  intro φ Hf0 H0 ρ σ Hf H ds Q S hF q
  unfold aCons at hF
  split at hF
  · rename_i d h1
    split at hF
    · rename_i ds' h2
      cases hF
      refine toK (pk_cons peW pkW) ?_
      refine h φ Hf0 H0 ρ σ Hf H d _ S h1 fun v Hf1 H1 g1 r1 => ?_
      refine t φ Hf0 H0 ρ σ Hf1 H1 ds' _ (S.gr g1) h2 fun vs Hf2 H2 g2 r2 => ?_
      exact q (v :: vs) Hf2 H2 (g1.trans g2) (.cons (r1.mono g2.f) r2)
    · cases hF
  · cases hF
def aApp (n k : Nat) (F G : Env → Option (List D)) : Env → Option (List D) := fun ρ => match F ρ with | some ds => (match G ρ with | some es => if ds.length = n ∧ es.length = k then some (ds ++ es) else none | none => none) | none => none
theorem aApp_some {a b : Nat} {ρ : Env} {ds : List D} (h : aApp a b Fs Gs ρ = some ds) : ∃ as bs, Fs ρ = some as ∧ Gs ρ = some bs ∧ ds = as ++ bs ∧ as.length = a ∧ bs.length = b := by
  unfold aApp at h
  split at h
  · rename_i as h1
    split at h
    · rename_i bs h2
      split at h
      · rename_i hl
        cases h
        exact ⟨as, bs, h1, h2, rfl, hl.1, hl.2⟩
      · cases h
    · cases h
  · cases h
theorem fe_omeK {pl : Sem Bool} {ks : List Str} {n0 nk : Nat} (cm : CalMk X.prog X.w X.K X.mg X.base j c m false n mir n0 ks) (hnk : nk = ks.length) (hr : Room k X.A) (hk : j ≤ k) (ho : FE X O o Fo) (ha : FA X O (e :: es) Fs) (hkw : FK X O kws Gs)
    (hall : (backToKw pos (keywordEach kws X.env)).all (·.1.isSome) = true := by rfl) (hks : (backToKw pos (keywordEach kws X.env)).filterMap (·.1) = ks := by rfl)
    (hst : starEach (e :: es) X.env = (false, eval e X.env) :: starEach es X.env := by rfl) (hpl : ((backTo pos (starEach (e :: es) X.env)).any (·.1) || (backToKw pos (keywordEach kws X.env)).any (·.1.isNone)) = false := by rfl)
    (ht : eval (.Call (.Attribute o m apos) (e :: es) kws pos) X.env = (do
      let ov ← eval o X.env
      standAt apos.atName
      let (f, first) ← holding [ov] (getMethod ov m pl)
      callWith pos f first (backTo pos (starEach (e :: es) X.env)) (backToKw pos (keywordEach kws X.env))) := by rfl) : FE X O (.Call (.Attribute o m apos) (e :: es) kws pos) (eMe c m n mir [] Fo (aApp n0 nk Fs Gs)) := by
  subst hnk
  obtain ⟨f, fd, ps, g, Fn, hc, hm, hb⟩ := cm.ok
  intro φ Hf0 H0 ρ σ Hf H d Q S hF q
  obtain ⟨fs, xs, ds, h1, h2, h3, h4, h5⟩ := eMe_some hF
  obtain ⟨as, bs, h6, h7, rfl, l1, l2⟩ := aApp_some h3
  rw [List.append_nil] at h4 h5
  refine ⟨fun pins s I => ?_⟩
  refine PySem.W.methodCall_KW (pl := pl) (thn ((ho φ Hf0 H0 ρ σ Hf H _ (fun x H1 => ∃ a dx gs, x = .ref a ∧ H1 a = some (.ins (He.ga X.K c) dx gs) ∧ gs.lookup m = none ∧ wA X (e :: es) σ H1 fun vs H2 => wK X kws σ H2 fun zs H3 => vs.length = n0 ∧ zs.length = ks.length ∧ spF X.K false n mir (.ref a :: vs ++ zs) H3 Q fun _ _ _ => False) S h1 (fun v Hf1 H1 g1 r1 => ?_)).h pins s I) fun u s1 hu => ?_) ht
  · cases r1 with
    | ins hi hl r =>
      refine ⟨_, _, _, rfl, g1.s _ _ hi, zip_lookup_none _ _ h2, ?_⟩
      refine ha φ Hf0 H0 ρ σ Hf1 H1 as _ (S.gr g1) h6 fun vs Hf2 H2 g2 r2 => ?_
      refine hkw φ Hf0 H0 ρ σ Hf2 H2 bs _ ((S.gr g1).gr g2) h7 fun zs Hf3 H3 g3 r3 => ?_
      refine ⟨r2.length.symm.trans l1, r3.length.symm.trans l2, φ, Hf3, _, d, g3.s, ?_, h4, h5, fun z Hf4 H4 g4 r4 => q z Hf4 H4 (((g1.trans g2).trans g3).trans g4) r4⟩
      exact .cons ((Rp.ins hi hl r).mono (g2.trans g3).f) ((r2.mono g3.f).append r3)
  · obtain ⟨x, H1, I1, rx, a, dx, gs, ex, ea, l, q1⟩ := hu
    subst ex
    obtain rfl : u = Value.ref a := rx
    refine getmeth_ok I1 ea hc hm l ?_
    refine PySem.W.callWith_KW (first := [.ref a]) (h₀ := X.base) I.ok.mod.kin hm.kp hall (thn (q1.h pos pins s1 I1) fun us s2 ⟨vs, H2, I2, r, q2⟩ => ?_) hpl hst
    refine thn (q2.h pos pins s2 I2) fun ws s3 ⟨zs, H3, I3, rz, l1, l2, q3⟩ => ⟨I3.kIn, ?_⟩
    rw [hks]
    exact run_fnN (us := .ref a :: us) (vs := .ref a :: vs) Fn (hr.mono hk) hb pass0 I3 (.cons rfl r) rz (by rw [List.length_cons, l1]) l2 q3
end
end FL
namespace FL
open PySem PySem.Spec L2

/-! ### the defs of a class -/
def clsM (st : Stmt) (j : Nat) : Stmt := match st with
  | .ClassDef _ _ _ body _ _ _ _ _ _ _ => body.getD j (.Pass ⟨0, 0, 0, 0⟩)
  | _ => .Pass ⟨0, 0, 0, 0⟩
/-- the def at a, by its names -/
abbrev FnAt (K : PySem.W.Frag) (x q : Str) (st : Stmt) (dvs : List V) (kws : List (Str × V)) (a : Addr) : Prop := ∃ fd, FunD K x q (defArgs st) (defBody st) (defScope st) dvs kws a fd
section
variable {P : Program} {w : World} {K : PySem.W.Frag} {mg : Str → Option Value} {base : Heap} {k : Nat} {a : Addr} {ps N : List Str} {x q c m : Str} {st : Stmt} {G : Env → Option Out} {dvs : List V} {kws : List (Str × V)}
theorem fnOk_by {fd : FuncData} {N' n : Nat} (F : FunD K x q (defArgs st) (defBody st) (defScope st) dvs kws a fd) (S : FnScope N ps (defScope st)) (hN : N' = N.length) (hn : n = ps.length) {fr : Bool} (O' : List Nat)
    (hb : ∀ (cdv : Value) (A : Around) (outer : List PySem.Env) (s : Shared) (H : Hp) (E : XK), Room k (A.deeper (PyProof.Rows.envOfC q (defScope st) s.heap.objs.size a cdv)) →
      FSs (cxOf CX0 P w K mg base N q (defScope st) a cdv A outer s H E).nox fr [] [] O' (defBody st) G) : FnOk P w K mg base CX0 (k + 1) a fd ps (spF K fr n (runD fr N' n G)) := by
  subst hN hn
  refine FunD.ok F S (fun vs H Q E h => ?_) (fun cdv A outer s H vs Q E hr h => ?_)
  · obtain ⟨φ, Hf, ds, d, _, r, hl, _⟩ := h
    exact r.length.symm.trans hl
  · obtain ⟨φ, Hf, ds, d, hs, r, hl, hm, hk⟩ := h
    refine ⟨_, PSs.nox pssW, ?_⟩
    have hvl : vs.length = ps.length := r.length.symm.trans hl
    unfold L2.start
    rw [hvl]
    unfold runD envOf at hm
    have S0 : SR K φ Hf H [] (ds.map some ++ List.replicate (N.length - ps.length) none) (vs.map some ++ List.replicate (N.length - ps.length) none) Hf H :=
      ⟨by simp [r.length], hs, Same.refl _, Same.refl _, fun _ _ _ z => z, fun i d e _ => r.val _ i d e, fun i d _ m => absurd m (by simp), fun i j _ _ _ _ _ m => absurd m (by simp)⟩
    split at hm
    · rename_i d' h'
      cases hm
      exact hb cdv A outer s H E hr φ Hf H _ _ Hf H _ _ S0 h' hk
    · rename_i ρ' h'
      cases fr with
      | false =>
        cases hm
        exact hb cdv A outer s H E hr φ Hf H _ _ Hf H _ _ S0 h' fun σ' Hf' H' s' S' => hk _ Hf' H' S'.from0 .non
      | true => cases hm
    · cases hm
theorem kbindsAll {fd : FuncData} {ks : List Str} (F : FunD K x q (defArgs st) (defBody st) (defScope st) [] kws a fd) (n : Nat) (hn : n + ks.length = ps.length)
    (h : ∀ (kV doc pm : Value) (an : Option Addr) (cdv ct : Value) (us ws : List Value), us.length = n → ws.length = ks.length → bindArgs (PySem.W.fnOf x q (defArgs st) (defBody st) (defScope st) .none kV doc pm an cdv ct) ⟨us, ks.zip ws⟩ = pure (ps.zip (us ++ ws))) :
    ∀ us ws : List Value, us.length = n → ws.length = ks.length → ∀ s : Shared, BindsTo s fd ⟨us, ks.zip ws⟩ (ps.zip (us ++ ws)) := by
  obtain ⟨oc, od, dV, kV, doc, pm, an, cdv, ct, osl, rfl, lk, hcd, hD, _⟩ := F.ex
  rcases hD with ⟨_, rfl⟩ | ⟨e, _⟩
  · exact fun us ws h1 h2 s => .of_eq (h kV doc pm an cdv ct us ws h1 h2)
  · exact absurd rfl e
/-- a method, all parameters written -/
theorem calM_of {N' n : Nat} (Dd : FnAt K m q st [] kws (He.fAd K (c, some m))) (hc : Cls K (He.ga K c)) (hm : Meth K (He.ga K c) m (He.ma K (He.ga K c) m)) (S : FnScope N ps (defScope st)) (hN : N' = N.length) (hn : n = ps.length)
    (hbind : ∀ (kV doc pm : Value) (an : Option Addr) (cdv ct : Value) (us : List Value), us.length = ps.length → bindArgs (PySem.W.fnOf m q (defArgs st) (defBody st) (defScope st) .none kV doc pm an cdv ct) ⟨us, []⟩ = pure (ps.zip us))
    {fr : Bool} (O' : List Nat)
    (hb : ∀ (cdv : Value) (A : Around) (outer : List PySem.Env) (s : Shared) (H : Hp) (E : XK), Room k (A.deeper (PyProof.Rows.envOfC q (defScope st) s.heap.objs.size (He.fAd K (c, some m)) cdv)) →
      FSs (cxOf CX0 P w K mg base N q (defScope st) (He.fAd K (c, some m)) cdv A outer s H E).nox fr [] [] O' (defBody st) G) : CalM P w K mg base (k + 1) c m fr n (runD fr N' n G) [] := by
  obtain ⟨fd, F⟩ := Dd
  exact ⟨_, fd, ps, [], [], fnOk_by F S hN hn O' hb, hc, hm, FunD.bindsN F hbind, .nil, fun _ _ => .nil⟩
/-- a def of the module with defaults, all parameters written -/
theorem calK_by {N' n : Nat} (Dd : FnAt K x x st dvs kws a) (hne : dvs ≠ []) (g : mg x = some (.ref a)) (S : FnScope N ps (defScope st)) (hN : N' = N.length) (hn : n = ps.length)
    (hbind : ∀ (T : Addr) (kV doc pm : Value) (an : Option Addr) (cdv ct : Value) (us its : List Value), us.length = ps.length → its.length = dvs.length →
      ∃ k, bindArgs (PySem.W.fnOf x x (defArgs st) (defBody st) (defScope st) (.ref T) kV doc pm an cdv ct) ⟨us, []⟩ = seqItems? (.ref T) >>= k ∧ k (some its.toArray) = pure (ps.zip (us ++ its.drop dvs.length)))
    {fr : Bool} (O' : List Nat)
    (hb : ∀ (cdv : Value) (A : Around) (outer : List PySem.Env) (s : Shared) (H : Hp) (E : XK), Room k (A.deeper (PyProof.Rows.envOfC x (defScope st) s.heap.objs.size a cdv)) →
      FSs (cxOf CX0 P w K mg base N x (defScope st) a cdv A outer s H E).nox fr [] [] O' (defBody st) G) : CalK P w K mg base (k + 1) x fr n (runD fr N' n G) := by
  obtain ⟨fd, F⟩ := Dd
  obtain ⟨ds, r, b⟩ := FunD.binds1 (ps := ps) F ps.length dvs.length hne (by rw [Nat.sub_self]; rfl) hbind
  rw [List.drop_length] at r
  cases r
  exact ⟨a, fd, ps, fnOk_by F S hN hn O' hb, g, F.kp, b⟩
/-- .. whose last parameters are keyword-only and have defaults: both ways -/
theorem calM_kw {N' n n0 : Nat} {ks : List Str} {df : List D} (Dd : FnAt K m q st [] kws (He.fAd K (c, some m))) (hc : Cls K (He.ga K c)) (hm : Meth K (He.ga K c) m (He.ma K (He.ga K c) m)) (S : FnScope N ps (defScope st)) (hN : N' = N.length) (hn : n = ps.length) (hne : kws ≠ []) (hn1 : 1 ≤ n0) (hn0 : n0 + kws.length = ps.length) (hks : ks.length = kws.length)
    (hdf : ∀ φ H, RpAll K φ H df (kws.map (·.2)))
    (h0 : ∀ (D : Addr) (doc pm : Value) (an : Option Addr) (cdv ct : Value) (us ws : List Value), us.length = n0 → ws.length = kws.length → KwChain D ((kws.map (·.1)).zip ws) (bindArgs (PySem.W.fnOf m q (defArgs st) (defBody st) (defScope st) .none (.ref D) doc pm an cdv ct) ⟨us, []⟩) (ps.zip (us ++ ws)))
    (h1 : ∀ (kV doc pm : Value) (an : Option Addr) (cdv ct : Value) (us ws : List Value), us.length = n0 → ws.length = ks.length → bindArgs (PySem.W.fnOf m q (defArgs st) (defBody st) (defScope st) .none kV doc pm an cdv ct) ⟨us, ks.zip ws⟩ = pure (ps.zip (us ++ ws)))
    {fr : Bool} (O' : List Nat)
    (hb : ∀ (cdv : Value) (A : Around) (outer : List PySem.Env) (s : Shared) (H : Hp) (E : XK), Room k (A.deeper (PyProof.Rows.envOfC q (defScope st) s.heap.objs.size (He.fAd K (c, some m)) cdv)) →
      FSs (cxOf CX0 P w K mg base N q (defScope st) (He.fAd K (c, some m)) cdv A outer s H E).nox fr [] [] O' (defBody st) G) : CalM P w K mg base (k + 1) c m fr n (runD fr N' n G) df ∧ CalMk P w K mg base (k + 1) c m fr n (runD fr N' n G) (n0 - 1) ks := by
  obtain ⟨fd, F⟩ := Dd
  have fo := fnOk_by F S hN hn O' hb
  obtain ⟨ds, r, b⟩ := FunD.binds0 F n0 hne hn0 h0
  exact ⟨⟨_, fd, ps, ds, kws.map (·.2), fo, hc, hm, b, r, hdf⟩, ⟨_, fd, ps, fun us ws => us ++ ws, fo, hc, hm, ⟨fun s us ws _ l1 l2 => kbindsAll F n0 (by rw [hks]; exact hn0) h1 us ws (by rw [l1]; omega) l2 s, fun r1 r2 => r1.append r2⟩⟩⟩
end
theorem u8 {A : Around} {k : Nat} (h : Room k A) : A.units + 8 < cLine := by have := h.units; omega
/-! ### objects are made -/
/-! no object of a class in it -/
mutual
def clean : D → Bool
  | .tup xs => cleanAll xs | .lst xs => cleanAll xs | .klst xs => cleanAll xs | .ins _ _ _ => false | .dct _ xs => cleanAll xs | .obj _ => false | _ => true
def cleanAll : List D → Bool
  | [] => true
  | d :: ds => clean d && cleanAll ds
end
def off (x : Addr) (H : Hp) : Hp := fun a => if a = x then none else H a
theorem off_ne {x a : Addr} {H : Hp} (h : a ≠ x) : off x H a = H a := if_neg h
theorem off_self {x : Addr} {H : Hp} : off x H x = none := if_pos rfl
section
variable {K : PySem.W.Frag} {φ : Nat → Option Addr} {H : Hp} {x C dx : Addr} {fs : List (Str × V)}
theorem SqT_off (hx : H x = some (.ins C dx fs)) {a : Addr} {xs : List V} (h : SqT K H a xs) : SqT K (off x H) a xs := by
  rcases h with (h | ⟨o, h⟩) | h
  · have n : a ≠ x := by rintro rfl; rw [hx] at h; cases h
    exact .inl (.inl (by rw [off_ne n]; exact h))
  · have n : a ≠ x := by rintro rfl; rw [hx] at h; cases h
    exact .inl (.inr ⟨o, by rw [off_ne n]; exact h⟩)
  · exact .inr h
theorem SqL_off (hx : H x = some (.ins C dx fs)) {a : Addr} {xs : List V} (h : SqL K H a xs) : SqL K (off x H) a xs := by
  rcases h with (h | ⟨o, h⟩) | h
  · have n : a ≠ x := by rintro rfl; rw [hx] at h; cases h
    exact .inl (.inl (by rw [off_ne n]; exact h))
  · have n : a ≠ x := by rintro rfl; rw [hx] at h; cases h
    exact .inl (.inr ⟨o, by rw [off_ne n]; exact h⟩)
  · exact .inr h
theorem lst_off (hx : H x = some (.ins C dx fs)) {a : Addr} {xs : List V} (h : H a = some (.lst xs)) : off x H a = some (.lst xs) := by
  have n : a ≠ x := by rintro rfl; rw [hx] at h; cases h
  rw [off_ne n]; exact h
theorem dK_off (hx : H x = some (.ins C dx fs)) {a : Addr} {xs : List (Key × V)} (h : Rd H a (.dK xs)) : Rd (off x H) a (.dK xs) := by
  have n : a ≠ x := by
    rintro rfl
    rcases h with h | ⟨o, h⟩ <;> rw [hx] at h <;> cases h
  unfold Rd at h ⊢
  rw [off_ne n]; exact h
mutual
theorem Rp.off (hx : H x = some (.ins C dx fs)) : ∀ {d : D} {v : V}, clean d = true → Rp K φ H d v → Rp K φ (off x H) d v
  | .non, _, _, .non => .non
  | .bl _, _, _, .bl b => .bl b
  | .int _, _, _, .int i => .int i
  | .str _, _, _, .str y => .str y
  | .tup _, _, h, .tup s r => .tup (SqT_off hx s) (RpAll.off hx (by simpa [clean] using h) r)
  | .lst _, _, h, .lst s r => .lst (lst_off hx s) (RpAll.off hx (by simpa [clean] using h) r)
  | .klst _, _, h, .klst s r => .klst (SqL_off hx s) (RpAll.off hx (by simpa [clean] using h) r)
  | .obj _, _, h, _ => by simp [clean] at h
  | .ins _ _ _, _, h, _ => by simp [clean] at h
  | .dct _ _, _, h, .dct s l r => .dct (dK_off hx s) l (RpAll.off hx (by simpa [clean] using h) r)
theorem RpAll.off (hx : H x = some (.ins C dx fs)) : ∀ {ds : List D} {vs : List V}, cleanAll ds = true → RpAll K φ H ds vs → RpAll K φ (off x H) ds vs
  | [], _, _, .nil => .nil
  | _ :: _, _, h, .cons r t => by
    have h' := Bool.and_eq_true_iff.mp (show (clean _ && cleanAll _) = true from h)
    exact .cons (Rp.off hx h'.1 r) (RpAll.off hx h'.2 t)
end
end
/-- all but the object at x goes on -/
structure Tr (x : Addr) (Hf H Hf' H' : Hp) : Prop where
  f : Same Hf Hf'
  h : ∀ a o, a ≠ x → H a = some o → H' a = some o
  n : ∀ a o, a ≠ x → H a = some o → Hf a = none → Hf' a = none
theorem Tr.refl {x : Addr} {Hf H : Hp} : Tr x Hf H Hf H := ⟨Same.refl _, fun _ _ _ h => h, fun _ _ _ _ h => h⟩
theorem Tr.trans {x : Addr} {Hf H Hf1 H1 Hf2 H2 : Hp} (a : Tr x Hf H Hf1 H1) (b : Tr x Hf1 H1 Hf2 H2) : Tr x Hf H Hf2 H2 :=
  ⟨a.f.trans b.f, fun y o h1 h2 => b.h y o h1 (a.h y o h1 h2), fun y o h1 h2 h3 => b.n y o h1 (a.h y o h1 h2) (a.n y o h1 h2 h3)⟩
theorem putF_new {f : Str} {v : V} : ∀ (fs : List Str) (vs : List V), fs.length = vs.length → fs.contains f = false → putF f v (fs.zip vs) = (fs ++ [f]).zip (vs ++ [v])
  | [], [], _, _ => rfl
  | [], _ :: _, h, _ => by simp at h
  | _ :: _, [], h, _ => by simp at h
  | g :: gs, u :: us, h, hn => by
    have hn' : f ≠ g ∧ gs.contains f = false := by simpa using hn
    show (if g = f then _ else _) = _
    rw [if_neg (fun z => hn'.1 z.symm)]
    show (g, u) :: putF f v (gs.zip us) = _
    rw [putF_new gs us (by simpa using h) hn'.2]
    rfl
/-- self.f = e, .. -/
def iniF (c : Str) : List (Str × (Env → Option D)) → List Str → List D → Env → Option (List D)
  | [], _, xs, _ => some xs
  | (f, F) :: r, fs, xs, ρ => match F (some (.ins c fs xs) :: ρ) with
    | some d => if (clean d && (!fs.contains f && decide (fs.length < 500))) = true then iniF c r (fs ++ [f]) (xs ++ [d]) ρ else none
    | none => none
def FIn (X : Cx) (c : Str) : List (Str × (Env → Option D)) → List Stmt → Prop
  | [], sts => sts = []
  | (f, F) :: r, sts => ∃ (e : Expr) (self : Str) (p1 p2 p3 : Pos) (rest : List Stmt), sts = .Assign [.Attribute (.Name self p1) f p2] e p3 :: rest ∧ FE X [] e F ∧ X.N[0]? = some self ∧ Vis X.env.scope self ∧ (self == ("__debug__" : Str)) = false ∧ (self == ("__classdict__" : Str)) = false ∧ NoAttr X.K (He.ga X.K c) f ∧
      swapsWith e (some (.Attribute (.Name self p1) f p2)) p3.line X.env = pure false ∧ FIn X c r rest
section
variable {X : Cx} {c : Str}
theorem ini_go (hc : Cls X.K (He.ga X.K c)) {φ : Nat → Option Addr} {x dx : Addr} {σ : L2.St} {ρ : Env} {D : Ends} (hσ : σ[0]? = some (some (.ref x))) (hl : (none :: ρ : Env).length = σ.length) :
    ∀ (st : List (Str × (Env → Option FL.D))) (sts : List Stmt) (fs : List Str) (xs out : List FL.D) (ws : List V) (Hf H : Hp), FIn X c st sts → iniF c st fs xs ρ = some out → Same Hf H → Hf x = none → H x = some (.ins (He.ga X.K c) dx (fs.zip ws)) → fs.length = ws.length → RpAll X.K φ Hf xs ws →
      (∀ (i : Nat) (d : FL.D), (none :: ρ : Env)[i]? = some (some d) → ∃ v, σ[i]? = some (some v) ∧ Rp X.K φ Hf d v) →
      (∀ Hf' H' ws', Tr x Hf H Hf' H' → Same Hf' H' → Hf' x = none → H' x = some (.ins (He.ga X.K c) dx ((fs ++ st.map (·.1)).zip ws')) → (fs ++ st.map (·.1)).length = ws'.length → RpAll X.K φ Hf' out ws' → D.nx σ H') → wSs X sts D σ H := by
  intro st
  induction st with
  | nil =>
    intro sts fs xs out ws Hf H hF e hs hx h2 h3 h4 hv k
    cases (show sts = [] from hF)
    cases e
    exact toSs pss_nil (k Hf H ws .refl hs hx (by simpa using h2) (by simpa using h3) h4)
  | cons q st ih =>
    obtain ⟨f, F⟩ := q
    intro sts fs xs out ws Hf H hF e hs hx h2 h3 h4 hv k
    obtain ⟨e0, self, p1, p2, p3, rest, rfl, hE, hN, hV, hd1, hd2, hna, hsw, hR⟩ := hF
    unfold iniF at e
    split at e
    · rename_i d hd
      split at e
      · rename_i hcl
        have hcl1 := Bool.and_eq_true_iff.mp hcl
        have hcl2 := Bool.and_eq_true_iff.mp hcl1.2
        have hnf : fs.contains f = false := by simpa using hcl2.1
        have hlen : fs.length < 500 := of_decide_eq_true hcl2.2
        refine toSs (pss_cons psW pssW) (toS (ps_fld (pe_var hN hV hd1 hd2) peW hsw) ?_)
        -- the object as it stands is there to be read
        have hf1 : Same Hf (upd Hf x (.ins (He.ga X.K c) dx (fs.zip ws))) := same_upd hx
        have S : SR X.K φ (upd Hf x (.ins (He.ga X.K c) dx (fs.zip ws))) H [] (some (.ins c fs xs) :: ρ) σ (upd Hf x (.ins (He.ga X.K c) dx (fs.zip ws))) H := by
          refine ⟨by simpa using hl, fun b u z => ?_, Same.refl _, Same.refl _, fun _ _ _ z => z, fun i d' z _ => ?_, fun i d' _ m => absurd m (by simp), fun i j _ _ _ _ _ m => absurd m (by simp)⟩
          · by_cases hb : b = x
            · subst hb; rw [upd_same] at z; cases z; exact h2
            · rw [upd_ne hb] at z; exact hs _ _ z
          · cases i with
            | zero =>
              cases z
              exact ⟨.ref x, hσ, .ins upd_same h3 (h4.mono hf1)⟩
            | succ i =>
              obtain ⟨v, q1, q2⟩ := hv (i + 1) d' (by simpa using z)
              exact ⟨v, q1, q2.mono hf1⟩
        refine hE φ _ _ _ σ _ H d _ S hd fun v Hf1 H1 g1 r1 => ?_
        have hx1 : Hf1 x = some (.ins (He.ga X.K c) dx (fs.zip ws)) := g1.f _ _ upd_same
        have hH1 : H1 x = some (.ins (He.ga X.K c) dx (fs.zip ws)) := g1.h _ _ h2
        refine ⟨_, hσ, x, He.ga X.K c, dx, _, rfl, hH1, hc, hna, by rw [List.length_zip]; omega, ?_⟩
        have tr : Tr x Hf H (off x Hf1) (upd H1 x (.ins (He.ga X.K c) dx (putF f v (fs.zip ws)))) := by
          refine ⟨fun b u z => ?_, fun b u hb z => ?_, fun b u hb z zf => ?_⟩
          · have hb : b ≠ x := by rintro rfl; rw [hx] at z; cases z
            rw [off_ne hb]
            exact g1.f _ _ (hf1 _ _ z)
          · rw [upd_ne hb]; exact g1.h _ _ z
          · rw [off_ne hb]
            exact g1.n _ _ z (by rw [upd_ne hb]; exact zf)
        rw [putF_new fs ws h3 hnf] at tr ⊢
        refine ih rest (fs ++ [f]) (xs ++ [d]) out (ws ++ [v]) (off x Hf1) _ hR e (fun b u z => ?_) off_self upd_same (by simp [h3]) ((h4.mono tr.f).append (.one (r1.off hx1 hcl1.1))) (fun i d' z => ?_) (fun Hf' H' ws' t' s' x' y' l' r' => ?_)
        · have hb : b ≠ x := by rintro rfl; rw [off_self] at z; cases z
          rw [off_ne hb] at z
          rw [upd_ne hb]
          exact g1.s _ _ z
        · obtain ⟨v', q1, q2⟩ := hv i d' z
          exact ⟨v', q1, q2.mono tr.f⟩
        · refine k Hf' H' ws' (tr.trans t') s' x' ?_ ?_ r'
          · simpa [List.append_assoc] using y'
          · simpa [List.append_assoc] using l'
      · cases e
    · cases e
end
/-- the promise of an __init__ -/
def spI (K : PySem.W.Frag) (c : Str) (fs : List Str) (n : Nat) (mi : List D → Option (List D)) : Sp := fun vs H Q _ => ∃ (φ : Nat → Option Addr) (Hf : Hp) (x dx : Addr) (us : List V) (ds out : List D), vs = .ref x :: us ∧ H x = some (.ins (He.ga K c) dx []) ∧ Hf x = none ∧ Same Hf H ∧ RpAll K φ Hf ds us ∧ ds.length = n ∧ mi ds = some out ∧
  ∀ Hf' H' ws, Tr x Hf H Hf' H' → Same Hf' H' → Hf' x = none → H' x = some (.ins (He.ga K c) dx (fs.zip ws)) → fs.length = ws.length → RpAll K φ Hf' out ws → Q .non H'
/-- its mirror: N slots, n parameters behind self -/
def runI (c : Str) (N n : Nat) (st : List (Str × (Env → Option D))) (ds : List D) : Option (List D) := iniF c st [] [] (ds.map some ++ List.replicate (N - (n + 1)) none)
structure CalC (P : Program) (w : World) (K : PySem.W.Frag) (mg : Str → Option Value) (base : Heap) (k : Nat) (c : Str) (fs : List Str) (n : Nat) (mi : List D → Option (List D)) : Prop where
  ok : ∃ (f : Addr) (fd : FuncData) (ps : List Str), FnOk P w K mg base CX0 k f fd ps (spI K c fs n mi) ∧ Mk K (He.ga K c) f ∧ mg c = some (.ref (He.ga K c)) ∧ Binds K fd ps []
section
variable {P : Program} {w : World} {K : PySem.W.Frag} {mg : Str → Option Value} {base : Heap} {k : Nat} {ps N : List Str} {q c : Str} {st : Stmt} {steps : List (Str × (Env → Option D))}
theorem calC_of {N' n : Nat} (Dd : FnAt K "__init__" q st [] [] (He.fAd K (c, some "__init__"))) (hc : Cls K (He.ga K c)) (hm : Mk K (He.ga K c) (He.ma K (He.ga K c) "__init__")) (hg : mg c = some (.ref (He.ga K c))) (S : FnScope N ps (defScope st)) (hN : N' = N.length) (hn : n + 1 = ps.length)
    (hbind : ∀ (kV doc pm : Value) (an : Option Addr) (cdv ct : Value) (us : List Value), us.length = ps.length → bindArgs (PySem.W.fnOf "__init__" q (defArgs st) (defBody st) (defScope st) .none kV doc pm an cdv ct) ⟨us, []⟩ = pure (ps.zip us))
    (hb : ∀ (cdv : Value) (A : Around) (outer : List PySem.Env) (s : Shared) (H : Hp) (E : XK), Room k (A.deeper (PyProof.Rows.envOfC q (defScope st) s.heap.objs.size (He.fAd K (c, some "__init__")) cdv)) →
      FIn (cxOf CX0 P w K mg base N q (defScope st) (He.fAd K (c, some "__init__")) cdv A outer s H E).nox c steps (defBody st)) : CalC P w K mg base (k + 1) c (steps.map (·.1)) n (runI c N' n steps) := by
  obtain ⟨fd, F⟩ := Dd
  refine ⟨_, fd, ps, FunD.ok F S (fun vs H Q E h => ?_) (fun cdv A outer s H vs Q E hr h => ?_), hm, hg, FunD.bindsN F hbind⟩
  · obtain ⟨φ, Hf, x, dx, us, ds, out, rfl, _, _, _, r, hl, _⟩ := h
    rw [List.length_cons, ← r.length, hl, hn]
  · obtain ⟨φ, Hf, x, dx, us, ds, out, rfl, h1, h2, h3, r, hl, hm, hk⟩ := h
    refine ⟨_, PSs.nox pssW, ?_⟩
    have hul : us.length = n := by rw [← r.length]; exact hl
    have hps : ps.length ≤ N.length := by
      have := congrArg List.length S.pre
      rw [List.length_take] at this
      omega
    have e0 : L2.start N (.ref x :: us) = some (.ref x) :: (us.map some ++ List.replicate (N.length - (n + 1)) none) := by
      unfold L2.start
      rw [List.length_cons, hul]; rfl
    rw [e0]
    subst hN
    unfold runI at hm
    refine ini_go (ρ := ds.map some ++ List.replicate (N.length - (n + 1)) none) hc rfl (by simp [r.length]) steps (defBody st) [] [] out [] Hf H (hb cdv A outer s H E hr) hm h3 h2 h1 rfl .nil (fun i d e => ?_) (fun Hf' H' ws' t s' x' y' l' r' => hk Hf' H' ws' t s' x' (by rw [List.nil_append] at y'; exact y') (by rw [List.nil_append] at l'; exact l') r')
    cases i with
    | zero => cases e
    | succ i => exact r.val _ i d (by simpa using e)
end
section
variable {X : Cx} {O : List Nat} {e : Expr} {es : List Expr} {c : Str} {p pos : Pos} {Fs : Env → Option (List D)} {k j n : Nat} {fs : List Str} {mi : List D → Option (List D)}
def eMk (c : Str) (fs : List Str) (n : Nat) (mi : List D → Option (List D)) (Fs : Env → Option (List D)) : Env → Option D := fun ρ => match Fs ρ with
  | some ds => if ds.length = n then (match mi ds with | some xs => some (.ins c fs xs) | none => none) else none
  | none => none
theorem fe_make (cc : CalC X.prog X.w X.K X.mg X.base j c fs n mi) (hr : Room k X.A) (hk : j + 1 ≤ k) (hg : Gl X c) (ha : FA X O (e :: es) Fs) (hdb : (c == ("__debug__" : Str)) = false := by decide) (he : starEach (e :: es) X.env = (false, eval e X.env) :: starEach es X.env := by rfl)
    (hpl : (backTo pos (starEach es X.env)).any (·.1) = false := by rfl) : FE X O (.Call (.Name c p) (e :: es) [] pos) (eMk c fs n mi Fs) := by
  obtain ⟨f, fd, ps, Fn, M, hm, hb⟩ := cc.ok
  intro φ Hf0 H0 ρ σ Hf H d Q S hF q
  unfold eMk at hF
  split at hF
  · rename_i ds h1
    split at hF
    · rename_i hl
      split at hF
      · rename_i xs h2
        cases hF
        refine toE (pe_make M Fn (hr.mono hk) hg hm hb .nil pass0 paW hdb he hpl) ?_
        refine ha φ Hf0 H0 ρ σ Hf H ds _ S h1 fun vs Hf1 H1 g1 r1 => ?_
        intro x dx hx hdx hne
        have hs1 : Same H1 (upd (upd H1 dx (.own x)) x (.ins (He.ga X.K c) dx [])) := (same_upd hdx).trans (same_upd (by rw [upd_ne (fun z => hne z.symm)]; exact hx))
        refine ⟨φ, Hf1, x, dx, vs, ds, xs, by rw [List.append_nil], upd_same, g1.s.free hx, g1.s.trans hs1, r1, hl, h2, fun Hf2 H2 ws t s2 x2 y2 l2 r2 => ⟨rfl, ?_⟩⟩
        have g2 : Gr Hf1 H1 (upd Hf2 x (.ins (He.ga X.K c) dx (fs.zip ws))) H2 := by
          refine ⟨t.f.trans (same_upd x2), fun b u z => ?_, fun b u z => ?_, fun b u z zf => ?_⟩
          · exact t.h b u (ne_of_none z hx) (hs1 _ _ z)
          · by_cases hb : b = x
            · subst hb; rw [upd_same] at z; cases z; exact y2
            · rw [upd_ne hb] at z; exact s2 _ _ z
          · have hb := ne_of_none z hx
            rw [upd_ne hb]
            exact t.n b u hb (hs1 _ _ z) zf
        exact q (.ref x) _ H2 (g1.trans g2) (.ins upd_same l2 (r2.mono (same_upd x2)))
      · cases hF
    · cases hF
  · cases hF
end
end FL
namespace FL
open PySem PySem.Spec L2

/-! ### tuple(d), d a dict of any keys -/
section
variable {prog : Program} {w : World} {A : Around} {E : Value → Shared → Prop} {s : Shared} {d : Addr} {es : Array DictEntry} {ep : Nat}
theorem dict_has_len : typeLookup (.type "dict") "__len__" = pure (some (.builtin "dict.__len__")) := F.slot_dict_len.lookup
theorem dict_hint {Q : Bool → Shared → Prop} (hT : s.TypeIs (.ref d) "dict") (h : Q false s) : wpAny (model prog w) A (Builtin.List.listLengthHint (.ref d)) Q E s := by
  unfold Builtin.List.listLengthHint
  refine wpAny_bind (wpAny_specialOf hT F.slot_dict_len.lookup ?_)
  generalize hid : ("dict.__len__" : String) = name
  wp_delta
  rw [show splitId name = some ("dict", "__len__") from by subst hid; decide +kernel]
  subst hid
  refine wpAny_bind (wpAny_isInstance (T := "dict") (b := true) hT (by rw [isSubtype_type]; kernel_rfl) ?_)
  refine wpAny_ite_split (fun z => absurd z (by decide)) (fun _ => ?_)
  refine wpAny_ite_split (fun _ => ?_) (fun z => absurd (by decide +kernel) z)
  exact wpAny_bind (wpAny_typeOf hT (wpAny_pure h))
/-- its keys, in order -/
theorem dict_collect {Q : List Value → Shared → Prop} (hh : A.handled = none) (hd : (d == sysModules) = false) (hm : s.heap.DictRaw d es ep) (hn : es.size ≤ sizeLine)
    (hQ : ∀ (h' : Heap) (tk : Nat) (acc : Array Value), (∀ b o, s.heap.get? b = some o → h'.get? b = some o) → s.heap.objs.size < h'.objs.size → ItemsOf (fun i v => ∃ hi : i < es.size, v = es[i].key) acc es.size → Q acc.toList { s with heap := h', toks := tk }) : wpAny (model prog w) A (collect (.ref d)) Q E s := by
  have hdl : d < s.heap.objs.size := let ⟨_, ho, _⟩ := hm; Heap.lt_size ho
  unfold collect
  apply wpAny_bind
  apply wpAny_runValue
  apply codeAny_builtin F.entry_proto_collect
  rw [Around.under_plainId F.plain_proto_collect _]
  change wpAny _ A.in1 (newList [] >>= fun l => again (.builtin "list.__iadd__" ⟨[l, .ref d], []⟩)) _ _ s
  apply wpAny_bind
  refine wpAny_newObj_type ?_
  refine wpAny_pure ⟨plainId_quiet F.plain_list_iadd _, codeAny_builtin F.entry_list_iadd ?_⟩
  rw [Around.under_plainId F.plain_list_iadd _]
  generalize hS : s.heap.objs.size = S
  have hdS : d < S := hS ▸ hdl
  have hSd : S ≠ d := Nat.ne_of_gt hdS
  generalize h1e : s.heap.push { cls := .type "list", data := .seq ([] : List Value).toArray } = h1
  have e1 : h1.get? S = some { cls := .type "list", data := .seq #[] } := by rw [← h1e, ← hS]; exact Heap.get?_push_size _ rfl
  have k1 : ∀ b o, s.heap.get? b = some o → h1.get? b = some o := fun b o z => by rw [← h1e]; exact Heap.get?_push_of_some _ z
  have m1 : h1.DictRaw d es ep := hm.at fun o z => k1 d o z
  have sz1 : h1.objs.size = S + 1 := by rw [← h1e, Heap.size_push, hS]
  change wpAny _ A.in1 (Builtin.List.listExtendWith (.ref S) (.ref d) (.ref S)) _ _ _
  unfold Builtin.List.listExtendWith
  refine wpAny_bind (wpAny_typeOf (T := "dict") (Heap.DictRaw.typeIs (s := { s with heap := h1 }) m1) ?_)
  rw [if_neg (by simp [Builtin.List.listSameRef, hSd])]
  refine wpAny_bind (wpAny_pyIter_dict_raw (s := { s with heap := h1 }) hd m1 ?_)
  generalize hI : ({ s with heap := h1 } : Shared).heap.objs.size = I
  have eI : I = S + 1 := by rw [← hI]; exact sz1
  generalize h2e : ({ s with heap := h1 } : Shared).heap.push { cls := .type "dict_keyiterator", data := .fields #[.ref d, .int 0 0, .int es.size 0, .int ep 0] } = h2
  have k2 : ∀ b o, h1.get? b = some o → h2.get? b = some o := fun b o z => by rw [← h2e]; exact Heap.get?_push_of_some _ z
  have i2 : h2.IsKeyIter I d 0 es.size ep := ⟨_, by rw [← h2e, ← hI]; exact Heap.get?_push_size _ rfl, rfl, rfl⟩
  have m2 : h2.DictRaw d es ep := m1.at fun o z => k2 d o z
  refine wpAny_bind (wpAny_holding (dict_hint (Heap.DictRaw.typeIs (s := { s with heap := h2 }) m2) ?_))
  have hId : d ≠ I := by rw [eI]; exact Nat.ne_of_lt (Nat.lt_succ_of_lt hdS)
  have hIS : S ≠ I := by rw [eI]; exact Nat.ne_of_lt (Nat.lt_succ_self S)
  -- the loop
  have loop : ∀ (h : Heap) (c : Nat), (∀ b o, b ≠ S → h2.get? b = some o → h.get? b = some o) → h.get? S = some { cls := .type "list", data := .seq #[] c } →
      codeAny (model prog w) A (.builtin "list.extend.loop" ⟨[.ref S, .ref I, .ref S], []⟩) (fun r s' => r = .ok (.ret (.ref S)) ∧ ∃ (h' : Heap) (tk : Nat) (acc : Array Value) (c' : Nat), s' = { s with heap := h', toks := tk } ∧
        (∀ b o, s.heap.get? b = some o → h'.get? b = some o) ∧ h'.get? S = some { cls := .type "list", dict := none, data := .seq acc c', slots := #[] } ∧ ItemsOf (fun i v => ∃ hi : i < es.size, v = es[i].key) acc es.size) { s with heap := h } := by
    intro h c kh eh
    have W := (Walks.rawKeys (prog := prog) (w := w) (A := A.in1) hh I d hId es ep).toS
    refine codeAny_extend_loopS W hn S (by simp [hIS, hSd]) (.ref S) es.size 0 { s with heap := h } #[] c (Nat.sub_zero _) (Nat.zero_le _) ⟨i2.at fun o z => kh I o (Ne.symm hIS) z, m2.at fun o z => kh d o (Ne.symm hSd) z⟩ eh (ItemsOf.nil _) ?_
    intro s' acc c' mv e' hacc
    obtain ⟨mh, mg, md, mo, _⟩ := mv
    obtain ⟨hp, gn, dr, tk, os⟩ := s'
    refine ⟨rfl, hp, tk, acc, c', ?_, fun b o z => ?_, e', hacc⟩
    · cases mg; cases md; cases mo; rfl
    · have hb : b < S := hS ▸ Heap.lt_size z
      have n1 : b ≠ S := Nat.ne_of_lt hb
      have n2 : b ≠ I := by rw [eI]; exact Nat.ne_of_lt (Nat.lt_succ_of_lt hb)
      exact mh b o (by simp [n1, n2]) (kh b o n1 (k2 b o (k1 b o z)))
  have e2 : h2.get? S = some { cls := .type "list", data := .seq #[] } := k2 S _ e1
  refine wpAny_ite_split (fun _ => ?_) (fun _ => ?_)
  · refine wpAny_bind (wpAny_rule (wpAny_bind ?_))
    change wpAny _ _ (updateSeq S (·.push .none) >>= fun _ => updateSeq S (·.pop)) _ _ _
    refine wpAny_bind (wpAny_updateSeq e2 rfl ?_)
    have e3 := Heap.get?_update_self (Obj.mapSeq (·.push Value.none)) e2 rfl
    refine wpAny_updateSeq (hz := by seq_fits) e3 rfl ?_
    have e4 := Heap.get?_update_self (Obj.mapSeq (·.pop)) e3 rfl
    refine wpAny_pure ⟨plainId_quiet F.plain_extend_loop _, ?_⟩
    refine codeAny_mono (loop _ _ (fun b o n z => ?_) e4) fun r s' z => ?_
    · exact (Heap.get?_update_other _ _ (Ne.symm n)).trans ((Heap.get?_update_other _ _ (Ne.symm n)).trans z)
    · obtain ⟨rfl, h', tk, acc, c', rfl, hk, eS, hi⟩ := z
      change wpAny _ A (load S >>= _) _ _ _
      exact wpAny_bind (wpAny_load eS (wpAny_pure (hQ h' tk acc hk (hS ▸ Heap.lt_size eS) hi)))
  · refine wpAny_pure ⟨plainId_quiet F.plain_extend_loop _, ?_⟩
    refine codeAny_mono (loop h2 _ (fun b o _ z => z) e2) fun r s' z => ?_
    obtain ⟨rfl, h', tk, acc, c', rfl, hk, eS, hi⟩ := z
    change wpAny _ A (load S >>= _) _ _ _
    exact wpAny_bind (wpAny_load eS (wpAny_pure (hQ h' tk acc hk (hS ▸ Heap.lt_size eS) hi)))
theorem dict_tuple {Q : Value → Shared → Prop} (hh : A.handled = none) (hd : (d == sysModules) = false) (hm : s.heap.DictRaw d es ep) (hn : es.size ≤ sizeLine)
    (hQ : ∀ (h' : Heap) (tk : Nat) (acc : Array Value), (∀ b o, s.heap.get? b = some o → h'.get? b = some o) → s.heap.objs.size < h'.objs.size → ItemsOf (fun i v => ∃ hi : i < es.size, v = es[i].key) acc es.size →
      Q (.ref h'.objs.size) { s with heap := h'.push { cls := .type "tuple", data := .seq acc }, toks := tk }) : wpAny (model prog w) A (call (.type "tuple") [.ref d]) Q E s := by
  refine callType_codes (Q₁ := fun obj s₁ => s₁.TypeIs obj "tuple" ∧ Q obj s₁) F.called_tuple (F.typeCall_tuple_1 _) F.entry_object_init ?_ fun obj s₁ z => ?_
  · apply codeAny_of_tree
    change wpAny _ A.in1.in1 (do checkBuiltinCall "tuple.__new__" ⟨[.type "tuple", .ref d], []⟩; again (.builtin "tuple.__new__" ⟨[.type "tuple", .ref d], []⟩)) _ _ s
    apply wpAny_bind
    refine wpAny_of_eq (F.newCall_tuple_1 _) (wpAny_pure ⟨plainId_quiet F.plain_tuple_new _, codeAny_builtin F.entry_tuple_new ?_⟩)
    rw [Around.under_plainId F.plain_tuple_new _]
    have q1 := sub_tuple_self
    have q2 := init_tuple_lookup
    have q3 := madeHere_tuple
    have q4 := hm.typeIs
    have q5 : A.in1.in1.handled = none := hh
    wp_walk using wpAny_typeOf q4, dict_collect (A := A.in1.in1) q5 hd hm hn
    intro h' tk acc hk hlt hi
    change wpAny _ _ (Builtin.Tuple.tupleExact acc.toList.toArray >>= fun v => ret v) _ _ _
    unfold Builtin.Tuple.tupleExact
    have e : acc.toList.toArray = acc := by simp
    rw [e]
    refine wpAny_bind (wpAny_newObj_type ?_ (by show acc.size ≤ sizeLine; rw [hi.1]; exact hn))
    exact wpAny_pure ⟨⟨_, Heap.get?_push_size _ rfl, rfl⟩, hQ h' tk acc hk hlt hi⟩
  · exact ⟨z.1, F.args_object_init_2 obj _, object_init_meets F.called_tuple.init.lookup F.called_tuple.made (by decide) prog w A.in1 _ s₁ ⟨z.1, rfl, z.2⟩⟩
end
end FL
namespace FL
open PySem PySem.Spec L2 PyProof.Rows

/-! ### dicts whose keys are tuples of texts, ints and such tuples -/
mutual
def nkD : D → Option NestedKey
  | .str x => some (.text x)
  | .int i => some (.num i)
  | .tup ds => (match nkAll ds with | some ks => some (.tup ks) | none => none)
  | _ => none
def nkAll : List D → Option (List NestedKey)
  | [] => some []
  | d :: ds => (match nkD d with | some k => (match nkAll ds with | some ks => some (k :: ks) | none => none) | none => none)
end
section
variable {X : Cx} {pins : List (Addr × Obj)} {σ : L2.St} {H : Hp} {s : Shared} {φ : Nat → Option Addr}
mutual
theorem nk_is (I : Inv X pins σ H s) : ∀ {d : D} {v : V} {u : Value} {k : NestedKey}, nkD d = some k → Rp X.K φ H d v → RelV v u → NestedIs s.heap k u
  | .str x, _, _, _, h, .str _, r => by
    cases h
    obtain ⟨t, rfl⟩ := r
    exact .text x t
  | .int i, _, _, _, h, .int _, r => by
    cases h
    obtain ⟨t, rfl⟩ := r
    exact .int i t
  | .tup ds, _, _, _, h, .tup (a := a) (vs := vs) q t, r => by
    unfold nkD at h
    split at h
    · rename_i ks hk
      cases h
      cases r
      obtain ⟨its, rv, ⟨o, h1, h2, n, h3⟩, hz⟩ := I.tuple q
      exact .tup h1 h2 h3 (nkAll_is I hk t rv)
    · cases h
  | .non, _, _, _, h, _, _ => by cases h
  | .bl _, _, _, _, h, _, _ => by cases h
  | .lst _, _, _, _, h, _, _ => by cases h
  | .klst _, _, _, _, h, _, _ => by cases h
  | .obj _, _, _, _, h, _, _ => by cases h
  | .ins _ _ _, _, _, _, h, _, _ => by cases h
  | .dct _ _, _, _, _, h, _, _ => by cases h
theorem nkAll_is (I : Inv X pins σ H s) : ∀ {ds : List D} {vs : List V} {us : List Value} {ks : List NestedKey}, nkAll ds = some ks → RpAll X.K φ H ds vs → Vals vs us → NestedAll s.heap ks us
  | [], _, _, _, h, .nil, r => by
    cases h
    cases r
    exact .nil
  | d :: ds, _, _, _, h, .cons q t, .cons r rs => by
    unfold nkAll at h
    split at h
    · rename_i k hk
      split at h
      · rename_i ks hks
        cases h
        exact .cons (nk_is I hk q r) (nkAll_is I hks t rs)
      · cases h
    · cases h
end
end
/-- a dict of such keys, its entries in order -/
def nkO (P : Program) (w : World) (D : Addr) (xs : List (NestedKey × Addr × Value)) : HO := .ext fun h => (D == sysModules) = false ∧ ∃ o es ep, h.get? D = some o ∧ o.ExactDict ∧ o.data = .dict es ep ∧ es.toList = xs.map (entryOfKey (nestedKind P w))
theorem nkO_ok {P : Program} {w : World} {H : Hp} {h : Heap} {D : Addr} {xs : List (NestedKey × Addr × Value)} (hd : (D == sysModules) = false) (e : ∃ o es ep, h.get? D = some o ∧ o.ExactDict ∧ o.data = .dict es ep ∧ es.toList = xs.map (entryOfKey (nestedKind P w))) : ObjOk P w H h D (nkO P w D xs) :=
  ⟨⟨hd, e⟩, let ⟨o, _, _, ho, _⟩ := e; ⟨o, ho⟩, fun _ _ ⟨hd, o, es, ep, ho, r⟩ k => ⟨hd, o, es, ep, k o ho, r⟩⟩
/-- the value at a is the key k -/
def KeyAt (K : PySem.W.Frag) (H : Hp) (k : NestedKey) (a : Addr) : Prop := k.depth ≤ 8 ∧ ∃ φ d, nkD d = some k ∧ Rp K φ H d (.ref a)
section
variable {X : Cx} {pins : List (Addr × Obj)} {σ : L2.St} {H : Hp} {s : Shared} {E : Value → Shared → Prop}
theorem KeyAt.is {k : NestedKey} {a : Addr} (I : Inv X pins σ H s) (q : KeyAt X.K H k a) : (nestedKind X.prog X.w).is s.heap k a := by
  obtain ⟨hd, φ, d, h1, h2⟩ := q
  exact ⟨nk_is I h1 h2 rfl, hd⟩
theorem nk_set {D : Addr} {xs : List (NestedKey × Addr × Value)} {k : NestedKey} {a : Addr} {u r : Value} {Q : Unit → Shared → Prop} (hu : X.A.units + 8 < cLine) (I : Inv X pins σ H s) (hD : H D = some (nkO X.prog X.w D xs)) (hz : xs.length < sizeLine) (hk : KeyAt X.K H k a) (hx : ∀ x ∈ xs, KeyAt X.K H x.1 x.2.1) (hn : (xs.map (·.1)).Nodup)
    (ru : RelV (.ref a) u) (h : ∀ s', Inv X pins σ (upd H D (nkO X.prog X.w D (storedH xs k a r))) s' → Q () s') : wpAny (model X.prog X.w) X.A (dictSet D u r) Q E s := by
  cases ru
  obtain ⟨⟨hs0, o, es, ep, ho, hc, hd, he⟩, _, _⟩ := I.hok D _ hD
  have dd : s.heap.DictOfH (nestedKind X.prog X.w) D xs := ⟨o, es, ep, ho, hc, hd, he, fun x hx' => (hx x hx').is I, hn⟩
  refine wpAny_dictSet_heap (hsz := Nat.le_of_lt hz) hu (hk.is I) dd fun h' dd' hs => h _ ?_
  obtain ⟨o', es', ep', ho', hc', hd', he', _, _⟩ := dd'
  exact d_write I (by rw [hD]; exact True.intro) hs ⟨o', ho'⟩ (nkO_ok hs0 ⟨o', es', ep', ho', hc', hd', he'⟩)
end
/-- the entry is put -/
def tPut (P : Program) (w : World) (K : PySem.W.Frag) (tk tv : TE) (D : Addr) (Nx : Hp → Prop) : L2.St → Hp → Prop := fun σ H => tk σ H fun y H4 => tv σ H4 fun _ H5 => ∃ xs k a, y = .ref a ∧ H5 D = some (nkO P w D xs) ∧ xs.length < sizeLine ∧ KeyAt K H5 k a ∧ (∀ x ∈ xs, KeyAt K H5 x.1 x.2.1) ∧ (xs.map (·.1)).Nodup ∧
  ∀ r, Nx (upd H5 D (nkO P w D (storedH xs k a r)))
def tDcN (P : Program) (w : World) (K : PySem.W.Frag) (l : Lv) (tk tv : TE) : TE := fun σ H Q => l.wi σ H fun J H1 => ∀ D, H1 D = none → Walk l (tPut P w K tk tv D) J (fun H => Q (.ref D) H) σ (upd H1 D (nkO P w D []))
section
variable {X : Cx} {kx vx tg iter : Expr} {ifs : List Expr} {scope : Scope} {own : List (Str × Nat)} {pos : Pos} {tk tv : TE} {ce : PySem.Env} {D : Addr} {s3 : Shared} {H3 : Hp} {fp : List Addr}
theorem dloop {l : Lv} {σ : L2.St} {Stop : Hp → Prop} {it : Addr} {own : List Addr} {tn : Nat → Heap → Prop} {J : It} {H : Hp} {s : Shared} {R : Result → Shared → Prop} (hc : X.calm = true) (hu : X.A.units + 8 < cLine) (hce : (X.blk s3 H3 scope ce fp).env = ce)
    (pg : PG (X.blk s3 H3 scope ce fp) tg l.g) (pt : PTs (X.blk s3 H3 scope ce fp) ifs l.tt) (pk : PE (X.blk s3 H3 scope ce fp) kx tk) (pv : PE (X.blk s3 H3 scope ce fp) vx tv)
    (T : Turn X.prog X.w X.K tg J own it tn) (stat : ∀ {H' s'}, Inv (X.blk s3 H3 scope ce fp) [] (wipe σ l.vs) H' s' → (∀ b ∈ own, H' b = none) → ∀ b ∈ own, FpOk (X.blk s3 H3 scope ce fp) [] H' b)
    (walk : Walk l (tPut X.prog X.w X.K tk tv D) J Stop σ H) (here : At (X.blk s3 H3 scope ce fp) [] (wipe σ l.vs) tn own 0 H s) (hdone : ∀ H' s', Inv (X.blk s3 H3 scope ce fp) [] (wipe σ l.vs) H' s' → Stop H' → R (.ok .next) s') :
    codeAny (model X.prog X.w) X.A (.compLoop (.DictComp kx vx [⟨tg, iter, ifs, 0⟩] scope pos) 0 (.ref it) (.ref D) ce) R s := by
  rcases walk with ⟨W, ⟨m, w0⟩, turn⟩
  refine compLoop_anyD (fun k s' => ∃ i H', At (X.blk s3 H3 scope ce fp) [] (wipe σ l.vs) tn own i H' s' ∧ W i k H') ?_ m ⟨0, H, here, w0⟩
  rintro k s' ⟨i, Hi, here, wk⟩
  have fpok := stat here.inv here.no
  rcases turn i k Hi wk with ⟨stop, fin⟩ | ⟨go, Nx, down, item⟩
  · refine thnF (T.done (X.blk s3 H3 scope ce fp) rfl rfl rfl hc i [] s' _ Hi (fun _ _ => False) here.inv fpok here.tn stop) ?_
    rintro _ s1 ⟨rfl, I1⟩
    exact hdone Hi s1 I1 fin
  · refine thnF (T.item (X.blk s3 H3 scope ce fp) rfl rfl rfl hc i [] s' _ Hi (fun _ _ => False) here.inv fpok here.tn go) ?_
    rintro _ s1 ⟨u, rfl, q1⟩
    refine thnF q1 ?_
    rintro _ mid ⟨x, Hm, Im, rx, yx, tm, nm⟩
    have pinned := Im.pinned (stat Im nm) (T.obj _ _ tm)
    refine thnF (pg.run _ mid _ Hm x u _ pinned rx (item x Hm yx)) ?_
    rintro _ s2 ⟨τ, H2, I2, same, q2⟩
    refine thnF (pt.run _ s2 τ H2 _ I2 q2) ?_
    rintro b s4 ⟨H4, I4, q4⟩
    have len : (wipe σ l.vs).length = τ.length := by rw [← same, wipe_length]
    have up : ∀ {H' : Hp} {s' : Shared}, Inv (X.blk s3 H3 scope ce fp) ([] ++ pinsAt own mid.heap) τ H' s' → Nx H' → ∃ m, m < k ∧ ∃ i H', At (X.blk s3 H3 scope ce fp) [] (wipe σ l.vs) tn own i H' s' ∧ W i m H' := fun {H' s'} I' nx => by
      rcases down H' nx with ⟨k', lt, wk'⟩
      exact ⟨k', lt, i + 1, H', At.ends T tm I' len fun a v e => (wipe_some (same ▸ e)).1, wk'⟩
    cases b
    · simp only [Bool.false_eq_true, ↓reduceIte] at q4 ⊢
      exact up I4 q4
    · simp only [↓reduceIte] at q4 ⊢
      refine thnF (pk.run _ s4 τ H4 _ I4 q4) ?_
      rintro v1 s5 ⟨y, H5, I5, ry, q5⟩
      refine thnF (pv.run _ s5 τ H5 _ I5 q5) ?_
      rintro v2 s6 ⟨z, H6, I6, rz, xs, key, a, rfl, hD, hlen, hkey, hkeys, hnd, nx⟩
      exact nk_set (X := X.blk s3 H3 scope ce fp) hu I6 hD hlen hkey hkeys hnd ry fun s7 I7 => up I7 (nx v2)
theorem pe_dcN {l : Lv} (hc : X.calm = true) (hu : X.A.units + 8 < cLine) (hN : X.N.Nodup) (hi : PI X tg iter l.wi) (ok : BlkOk X.N X.env.scope scope own) (hvs : l.vs = own.map (·.2)) (hs : ∀ x, foldedSetIterable iter X.env x = pure x)
    (hg : ∀ s H C cl fp, PG (X.blk s H scope (compEnvC scope cl C X.env) fp) tg l.g) (ht : ∀ s H C cl fp, PTs (X.blk s H scope (compEnvC scope cl C X.env) fp) ifs l.tt)
    (hk : ∀ s H C cl fp, PE (X.blk s H scope (compEnvC scope cl C X.env) fp) kx tk) (hv : ∀ s H C cl fp, PE (X.blk s H scope (compEnvC scope cl C X.env) fp) vx tv) :
    PE X (.DictComp kx vx [⟨tg, iter, ifs, 0⟩] scope pos) (tDcN X.prog X.w X.K l tk tv) := by
  constructor
  intro pins s σ H Q I h
  rw [arm_eval_DictComp]
  have cells : ∀ y ∈ scope.names, y.2 = .free → ∃ c, X.env.cells.lookup y.1 = some c := by
    intro y hy e
    rcases ok.free y hy e with z | z
    · exact I.ok.has _ (.inl z)
    · exact I.ok.has _ (.inr z)
  refine wpAny_comprehension_free (use := none) rfl hs (closure_ok cells) ok.kind (fun y hy e => (ok.uniq y hy).trans (congrArg some e)) (thn (hi.run pins s σ H _ I h) fun x s1 hx => thn hx ?_)
  rintro _ s2 ⟨it, fp, tn, J, H2, rfl, I2, T, t0, fo, q⟩
  refine wpAny_newObj_type (newEnv_comp ?_)
  have walk := q s2.heap.objs.size (I2.hok.fresh (Nat.le_refl _))
  have I3 : Inv X pins σ (upd H2 s2.heap.objs.size (nkO X.prog X.w s2.heap.objs.size [])) { s2 with heap := s2.heap.push { cls := .type "dict", data := .dict #[] } } :=
    I2.laid (t' := s2.toks) (fun b o z => Heap.get?_push_of_some _ z) (Nat.le_refl _) (nkO_ok (beq_eq_false_iff_ne.mpr (Ne.symm (Nat.ne_of_lt I2.big))) ⟨_, #[], 0, Heap.get?_push_size _ rfl, ⟨rfl, rfl, rfl⟩, rfl, rfl⟩)
  have f3 : ∀ b ∈ fp, FpOk X pins (upd H2 s2.heap.objs.size (nkO X.prog X.w s2.heap.objs.size [])) b ∧ b < (s2.heap.push { cls := .type "dict", data := .dict #[] }).objs.size := by
    intro b hb
    obtain ⟨o, z, _⟩ := T.obj _ _ t0 b hb
    have small : b < s2.heap.objs.size := Heap.lt_size z
    have away : upd H2 s2.heap.objs.size (nkO X.prog X.w s2.heap.objs.size []) b = H2 b := upd_ne (Nat.ne_of_lt small)
    exact ⟨⟨away.trans (fo b hb).1, (fo b hb).2⟩, by rw [Heap.size_push]; exact Nat.lt_succ_of_lt small⟩
  have inside := block_start I3 ok hN f3
  rw [← hvs] at inside
  have later : ∀ {h : Heap}, (∀ b o, s2.heap.get? b = some o → h.get? b = some o) → tn 0 h := fun keeps => T.keep _ _ _ t0 fun b _ o z => keeps b o z
  refine codeAny_compStart_dict ?_ (T.self X.A 0 _ _ _ (later fun b o z => pushCells_keeps _ _ _ _ (Heap.get?_push_of_some _ (Heap.get?_push_of_some _ z))) ?_) <;>
  · refine dloop (l := l) (tk := tk) (tv := tv) hc hu rfl (hg _ _ _ _ _) (ht _ _ _ _ _) (hk _ _ _ _ _) (hv _ _ _ _ _) T ?_ walk
      ⟨inside, later fun b o z => pushCells_keeps _ _ _ _ (Heap.get?_push_of_some _ (Heap.get?_push_of_some _ z)), fun b hb => (f3 b hb).1.1⟩ ?_
    · intro H' s' I' hn b hb
      refine ⟨hn b hb, (I'.ok.exf b hb).1, I'.ok.exfs b hb, .inl hb, fun x c e => (I'.ok.exf b hb).2 x c e, fun p hp => ?_⟩
      cases hp
    · intro H5 s6 I6 fin
      have I7 : Inv X pins σ H5 s6 := I3.call' (ch := fp) I6.os I6.base I6.hok I6.bare fun b hb => let z := (f3 b hb).1.2; ⟨z.2.2.1, z.1, z.2.2.2.1, z.2.2.2.2⟩
      rcases I6.loc with ⟨m, hn, _⟩
      rcases I3.fpOk (Nat.le_refl _) I6.free with ⟨f0, f1, _, f4, f5, f6⟩
      exact ⟨m, hn, fun _ sb => ⟨.ref s2.heap.objs.size, H5, I7.turned (t' := s6.toks) (fun b o hb e => (sb.2 b hb).trans e) f0 f1 f4 f5 f6, rfl, fin⟩⟩
end
end FL
namespace FL
open PySem PySem.Spec L2
/-! ### tuple({x: True for x in ..}) -/
def dedG : List D → List (NestedKey × D) → Option (List (NestedKey × D))
  | [], acc => some acc
  | d :: ds, acc => match nkD d with
    | some k => if (isTup d && (decide (k.depth ≤ 8) && decide (acc.length < 100000))) = true then dedG ds (if (acc.any fun q => NestedKey.beq q.1 k) = true then acc else acc ++ [(k, d)]) else none
    | none => none
def eDed (i0 : Nat) (Fi : Env → Option (List D)) : Env → Option D := fun ρ => match Fi ρ with
  | some ds => if i0 < ρ.length then (match dedG ds [] with | some acc => some (.tup (acc.map (·.2))) | none => none) else none
  | none => none
/-- the entries stand for the pairs -/
inductive Mt (K : PySem.W.Frag) (φ : Nat → Option Addr) (Hf : Hp) : List (NestedKey × D) → List (NestedKey × Addr × Value) → Prop
  | nil : Mt K φ Hf [] []
  | cons {k d a v acc xs} : nkD d = some k → k.depth ≤ 8 → Rp K φ Hf d (.ref a) → Mt K φ Hf acc xs → Mt K φ Hf ((k, d) :: acc) ((k, a, v) :: xs)
section
variable {K : PySem.W.Frag} {φ : Nat → Option Addr} {Hf Hf' H : Hp}
theorem Mt.mono (s : Same Hf Hf') : ∀ {acc : List (NestedKey × D)} {xs : List (NestedKey × Addr × Value)}, Mt K φ Hf acc xs → Mt K φ Hf' acc xs
  | _, _, .nil => .nil
  | _, _, .cons a b c t => .cons a b (c.mono s) (Mt.mono s t)
theorem Mt.length : ∀ {acc : List (NestedKey × D)} {xs : List (NestedKey × Addr × Value)}, Mt K φ Hf acc xs → acc.length = xs.length
  | _, _, .nil => rfl
  | _, _, .cons _ _ _ t => by simp [Mt.length t]
theorem Mt.keys : ∀ {acc : List (NestedKey × D)} {xs : List (NestedKey × Addr × Value)}, Mt K φ Hf acc xs → xs.map (·.1) = acc.map (·.1)
  | _, _, .nil => rfl
  | _, _, .cons _ _ _ t => by simp [Mt.keys t]
theorem Mt.at (s : Same Hf H) : ∀ {acc : List (NestedKey × D)} {xs : List (NestedKey × Addr × Value)}, Mt K φ Hf acc xs → ∀ x ∈ xs, KeyAt K H x.1 x.2.1
  | _, _, .nil, x, h => by cases h
  | _, _, .cons a b c t, x, h => by
    rcases List.mem_cons.mp h with rfl | h
    · exact ⟨b, φ, _, a, c.mono s⟩
    · exact Mt.at s t x h
theorem Mt.vals : ∀ {acc : List (NestedKey × D)} {xs : List (NestedKey × Addr × Value)}, Mt K φ Hf acc xs → RpAll K φ Hf (acc.map (·.2)) (xs.map fun x => V.ref x.2.1)
  | _, _, .nil => .nil
  | _, _, .cons _ _ c t => .cons c (Mt.vals t)
theorem Mt.snoc {k : NestedKey} {d : D} {a : Addr} {v : Value} (h1 : nkD d = some k) (h2 : k.depth ≤ 8) (h3 : Rp K φ Hf d (.ref a)) : ∀ {acc : List (NestedKey × D)} {xs : List (NestedKey × Addr × Value)}, Mt K φ Hf acc xs → Mt K φ Hf (acc ++ [(k, d)]) (xs ++ [(k, a, v)])
  | _, _, .nil => .cons h1 h2 h3 .nil
  | _, _, .cons a b c t => .cons a b c (Mt.snoc h1 h2 h3 t)
theorem Mt.old {k : NestedKey} {v : Value} : ∀ {acc : List (NestedKey × D)} {xs : List (NestedKey × Addr × Value)}, Mt K φ Hf acc xs → Mt K φ Hf acc (xs.map (putAt k v))
  | _, _, .nil => .nil
  | _, _, .cons (k := k') (a := a) a1 b c t => by
    rw [List.map_cons]
    unfold putAt
    split
    · exact .cons a1 b c (Mt.old t)
    · exact .cons a1 b c (Mt.old t)
theorem any_keys {k : NestedKey} : ∀ (xs : List (NestedKey × Addr × Value)), (atKey xs k).isSome = xs.any fun x => NestedKey.beq x.1 k
  | [] => rfl
  | x :: xs => by
    have ih := any_keys (k := k) xs
    unfold atKey at ih ⊢
    rw [List.find?_cons, List.any_cons, ← NestedKey.decide_eq]
    by_cases h : x.1 = k
    · simp [h]
    · simp only [h, decide_false, Bool.false_or]
      exact ih
theorem any_acc {k : NestedKey} {acc : List (NestedKey × D)} {xs : List (NestedKey × Addr × Value)} (m : Mt K φ Hf acc xs) : (xs.any fun x => NestedKey.beq x.1 k) = acc.any fun q => NestedKey.beq q.1 k := by
  have e := m.keys
  have h1 : (xs.any fun x => NestedKey.beq x.1 k) = (xs.map (·.1)).any fun y => NestedKey.beq y k := by rw [List.any_map]; rfl
  have h2 : (acc.any fun x => NestedKey.beq x.1 k) = (acc.map (·.1)).any fun y => NestedKey.beq y k := by rw [List.any_map]; rfl
  rw [h1, h2, e]
theorem not_any {k : NestedKey} {acc : List (NestedKey × D)} (h : (acc.any fun q => NestedKey.beq q.1 k) = false) : k ∉ acc.map (·.1) := fun hm => by
  obtain ⟨q, hq, rfl⟩ := List.mem_map.mp hm
  have := List.any_eq_false.mp h q hq
  rw [NestedKey.beq_self] at this
  exact this rfl
end
theorem wipeE_length (ρ : Env) : ∀ vs : List Nat, (wipeE ρ vs).length = ρ.length
  | [] => rfl
  | v :: vs => by unfold wipeE; rw [List.length_set]; exact wipeE_length ρ vs
/-! tuple(d) -/
def rTupN (P : Program) (w : World) : List V → Hp → VK → Prop := fun vs H Q => ∃ a xs, vs = [.ref a] ∧ H a = some (nkO P w a xs) ∧ xs.length ≤ sizeLine ∧ ∀ q, H q = none → Q (.ref q) (upd H q (.tup (xs.map fun x => V.ref x.2.1)))
theorem vals_refs : ∀ xs : List (NestedKey × Addr × Value), Vals (xs.map fun x => V.ref x.2.1) (xs.map fun x => Value.ref x.2.1)
  | [] => .nil
  | _ :: xs => .cons rfl (vals_refs xs)
theorem call_tupN {X : Cx} (hh : X.A.handled = none) : CallR X (.type "tuple") (rTupN X.prog X.w) := by
  intro pins s σ H xs us Q I r h
  obtain ⟨a, es0, rfl, hD, hl, q⟩ := h
  obtain ⟨u, rfl, ru⟩ := vals1 r
  cases ru
  obtain ⟨⟨hs0, o, es, ep, ho, hc, hd, he⟩, _, _⟩ := I.hok a _ hD
  have hsz : es.size = es0.length := by rw [← Array.length_toList, he, List.length_map]
  refine dict_tuple hh hs0 ⟨o, ho, hc, hd⟩ (by rw [hsz]; exact hl) fun h' tk acc hk hlt hi => ?_
  have hacc : acc.toList = es0.map fun x => Value.ref x.2.1 := by
    apply List.ext_getElem?
    intro j
    rw [List.getElem?_map, Array.getElem?_toList]
    by_cases hj : j < es0.length
    · have hja : j < acc.size := by rw [hi.1, hsz]; exact hj
      have e1 : acc[j]? = some acc[j] := Array.getElem?_eq_getElem hja
      obtain ⟨hje, e2⟩ := hi.2 j _ e1
      have e3 : es.toList[j]? = (es0.map (entryOfKey (nestedKind X.prog X.w)))[j]? := by rw [he]
      rw [Array.getElem?_toList, Array.getElem?_eq_getElem hje, List.getElem?_map, List.getElem?_eq_getElem hj] at e3
      have e4 := Option.some.inj e3
      rw [e1, e2, e4, List.getElem?_eq_getElem hj]
      rfl
    · rw [List.getElem?_eq_none (by omega), Array.getElem?_eq_none (by rw [hi.1, hsz]; omega)]
      rfl
  have hp : s.heap.objs.size ≤ h'.objs.size := Nat.le_of_lt hlt
  refine ⟨.ref h'.objs.size, upd H h'.objs.size (.tup (es0.map fun x => V.ref x.2.1)), ?_, rfl, q _ (I.hok.fresh hp)⟩
  refine I.laid (t' := tk) (fun b ob z => Heap.get?_push_of_some _ (hk b ob z)) hp ⟨by rw [List.length_map]; exact hl, _, vals_refs es0, ?_⟩
  exact ⟨_, Heap.get?_push_size _ rfl, rfl, 0, by rw [← hacc]⟩
section
variable {X : Cx} {O O2 : List Nat} {kx vx tg iter : Expr} {x : Str} {scope : Scope} {own : List (Str × Nat)} {p pos dpos : Pos} {Fi : Env → Option (List D)} {V0 : Env → Option D} {i0 : Nat}
theorem ded_go (hi : FIB X O tg iter Fi) (hg : ∀ s H C cl fp, FG (X.blk s H scope (compEnvC scope cl C X.env) fp) O O2 [i0] tg (gSet i0)) (htg : i0 ∈ own.map (·.2))
    (he : ∀ s H C cl fp, FE (X.blk s H scope (compEnvC scope cl C X.env) fp) O2 kx (eVar i0)) (hv : ∀ s H C cl fp, FE (X.blk s H scope (compEnvC scope cl C X.env) fp) O2 vx V0) (hV0 : ∀ ρ, ∃ d, V0 ρ = some d)
    {φ : Nat → Option Addr} {Hf0 H0 : Hp} {ρ : Env} {σ : L2.St} {Hf H : Hp} {d : D} {Q : VK} (S : SR X.K φ Hf0 H0 O ρ σ Hf H) (hF : eDed i0 Fi ρ = some d)
    (k : ∀ a acc xs Hf' H', d = .tup (acc.map (·.2)) → Gr Hf H Hf' H' → Mt X.K φ Hf' acc xs → acc.length < 1000000 → H' a = some (nkO X.prog X.w a xs) → Q (.ref a) H') :
    tDcN X.prog X.w X.K ⟨wI X tg iter, uG X scope tg, tYes, own.map (·.2)⟩ (uE X scope kx) (uE X scope vx) σ H Q := by
  unfold eDed at hF
  split at hF
  · rename_i ds hds
    split at hF
    · rename_i hlen
      split at hF
      · rename_i out hout
        cases hF
        refine hi φ Hf0 H0 ρ σ Hf H ds _ S hds fun J Hf1 H1 g1 itb => ?_
        intro Dn hDn
        refine ⟨fun i m H2 => m = ds.length - i ∧ i ≤ ds.length ∧ ∃ Hf2 acc xs, Gr Hf1 H1 Hf2 H2 ∧ Hf2 Dn = none ∧ H2 Dn = some (nkO X.prog X.w Dn xs) ∧ Mt X.K φ Hf2 acc xs ∧ (acc.map (·.1)).Nodup ∧ acc.length < 1000000 ∧ dedG (ds.drop i) acc = some out,
          ⟨ds.length, by simp, Nat.zero_le _, Hf1, [], [], .own g1.s hDn, g1.s.free hDn, upd_same, .nil, List.nodup_nil, by decide, by simpa using hout⟩, ?_⟩
        rintro i m H2 ⟨rfl, hil, Hf2, acc, xs, g2, hf2, hh2, mt, nd, small, hrest⟩
        by_cases hlt : i < ds.length
        · right
          have hget : ds[i]? = some ds[i] := List.getElem?_eq_getElem hlt
          obtain ⟨hgo, hyld⟩ := (itb i Hf2 H2 g2).2 _ hget
          refine ⟨hgo, fun H' => ∃ Hf3 acc' xs', Gr Hf1 H1 Hf3 H' ∧ Hf3 Dn = none ∧ H' Dn = some (nkO X.prog X.w Dn xs') ∧ Mt X.K φ Hf3 acc' xs' ∧ (acc'.map (·.1)).Nodup ∧ acc'.length < 1000000 ∧ dedG (ds.drop (i + 1)) acc' = some out,
            fun H' ⟨Hf3, acc', xs', a1, a2, a3, a4, a5, a6, a7⟩ => ⟨ds.length - (i + 1), by omega, rfl, hlt, Hf3, acc', xs', a1, a2, a3, a4, a5, a6, a7⟩, fun z H3 hy => ?_⟩
          obtain ⟨Hf3, g3, r3⟩ := hyld z H3 hy
          have g13 := g2.trans g3
          have S3 := ((S.gr g1).gr g13).wipe (own.map (·.2))
          rw [List.drop_eq_getElem_cons hlt] at hrest
          unfold dedG at hrest
          split at hrest
          · rename_i key hkey
            split at hrest
            · rename_i hok
              have hok1 := Bool.and_eq_true_iff.mp hok
              have hok2 := Bool.and_eq_true_iff.mp hok1.2
              have hdep : key.depth ≤ 8 := of_decide_eq_true hok2.1
              have hal : acc.length < 100000 := of_decide_eq_true hok2.2
              intro s0 h0 C0 cl0 fp0
              refine hg s0 h0 C0 cl0 fp0 φ Hf0 H0 _ _ Hf3 H3 _ z _ _ S3 r3 rfl fun σ2 S4 w4 => ⟨(w4 _ fun j hj => by rw [List.mem_singleton.mp hj]; exact htg).trans wipe_wipe, ?_⟩
              dsimp only [tYes]
              refine iteT ?_
              intro s1 h1 C1 cl1 fp1
              have hvar : eVar i0 ((wipeE ρ (own.map (·.2))).set i0 (some ds[i])) = some ds[i] := by
                unfold eVar
                rw [List.getElem?_set_self (by rw [wipeE_length]; exact hlen)]
              refine he s1 h1 C1 cl1 fp1 φ Hf0 H0 _ σ2 Hf3 H3 _ _ S4 hvar fun v Hf4 H4 g4 r4 => ?_
              intro s2 h2 C2 cl2 fp2
              obtain ⟨dv, hdv⟩ := hV0 ((wipeE ρ (own.map (·.2))).set i0 (some ds[i]))
              refine hv s2 h2 C2 cl2 fp2 φ Hf0 H0 _ σ2 Hf4 H4 dv _ (S4.gr g4) hdv fun v2 Hf5 H5 g5 r5 => ?_
              have g35 := g3.trans (g4.trans g5)
              have r4' := r4.mono g5.f
              generalize ds[i] = dd at hkey hok1 r4 r4' hrest hget hvar r3
              cases r4' with
              | @tup a vs ds' sq rr =>
                have hrp : Rp X.K φ Hf5 (.tup ds') (.ref a) := .tup sq rr
                have hlx : xs.length < sizeLine := by rw [← mt.length, PySem.sizeLine_eq]; omega
                have mt5 := mt.mono g35.f
                refine ⟨xs, key, a, rfl, g35.h _ _ hh2, hlx, ⟨hdep, φ, _, hkey, hrp.mono g5.s⟩, mt5.at g5.s, by rw [mt.keys]; exact nd, fun rv => ?_⟩
                have gg := g2.trans g35
                have gend : ∀ o, Gr Hf1 H1 Hf5 (upd H5 Dn o) := fun o => by
                  refine ⟨gg.f, fun b ob e => ?_, fun b ob e => ?_, gg.n⟩
                  · rw [upd_ne (ne_of_none e hDn)]; exact gg.h _ _ e
                  · rw [upd_ne (ne_of_none e (g35.n _ _ hh2 hf2))]; exact gg.s _ _ e
                by_cases hany : (acc.any fun q => NestedKey.beq q.1 key) = true
                · rw [if_pos hany] at hrest
                  have e1 : (atKey xs key).isSome = true := by rw [any_keys, any_acc mt]; exact hany
                  obtain ⟨pp, hpp⟩ := Option.isSome_iff_exists.mp e1
                  refine ⟨Hf5, acc, storedH xs key a rv, gend _, g35.n _ _ hh2 hf2, upd_same, ?_, nd, small, hrest⟩
                  rw [storedH_old hpp]
                  exact mt5.old
                · have hany' : (acc.any fun q => NestedKey.beq q.1 key) = false := by simpa using hany
                  rw [if_neg hany] at hrest
                  have e1 : atKey xs key = none := by
                    have : (atKey xs key).isSome = false := by rw [any_keys, any_acc mt]; exact hany'
                    simpa using this
                  refine ⟨Hf5, acc ++ [(key, .tup ds')], storedH xs key a rv, gend _, g35.n _ _ hh2 hf2, upd_same, ?_, ?_, by rw [List.length_append, List.length_singleton]; omega, hrest⟩
                  · rw [storedH_new e1]
                    exact mt5.snoc hkey hdep hrp
                  · rw [List.map_append, List.nodup_append]
                    refine ⟨nd, by simp, fun y hy z hz => ?_⟩
                    have hz' : z = key := by simpa using hz
                    subst hz'
                    rintro rfl
                    exact not_any hany' hy
              | _ => cases hok1.1
            · cases hrest
          · cases hrest
        · left
          have hie : i = ds.length := by omega
          refine ⟨(itb i Hf2 H2 g2).1 (by omega), ?_⟩
          subst hie
          rw [List.drop_length] at hrest
          cases hrest
          exact k Dn out xs Hf2 H2 rfl (g1.trans g2) mt small hh2
      · cases hF
    · cases hF
  · cases hF
/-- tuple({x: True for x in ..}) -/
theorem fe_ded {nm : Str} (hc : X.calm = true) (hh : X.A.handled = none) (hu : X.A.units + 8 < cLine) (hN : X.N.Nodup) (ok : BlkOk X.N X.env.scope scope own) (hi : FIB X O tg iter Fi) (hg : ∀ s H C cl fp, FG (X.blk s H scope (compEnvC scope cl C X.env) fp) O O2 [i0] tg (gSet i0)) (htg : (own.map (·.2)).contains i0 = true)
    (he : ∀ s H C cl fp, FE (X.blk s H scope (compEnvC scope cl C X.env) fp) O2 kx (eVar i0)) (hv : ∀ s H C cl fp, FE (X.blk s H scope (compEnvC scope cl C X.env) fp) O2 vx V0) (hV0 : ∀ ρ, ∃ d, V0 ρ = some d)
    (hgl : Gl X nm) (hmg : X.mg nm = none) (hbt : bootBuiltins nm = some (.type "tuple")) (hs : ∀ x, foldedSetIterable iter X.env x = pure x := by intro _; rfl) (hnm : nm ≠ "__name__" := by decide +kernel) (hdb : (nm == ("__debug__" : Str)) = false := by decide +kernel)
    (hst : starEach [.DictComp kx vx [⟨tg, iter, [], 0⟩] scope dpos] X.env = (false, eval (.DictComp kx vx [⟨tg, iter, [], 0⟩] scope dpos) X.env) :: starEach [] X.env := by rfl) (hpl : (backTo pos (starEach [] X.env)).any (·.1) = false := by rfl) :
    FE X O (.Call (.Name nm p) [.DictComp kx vx [⟨tg, iter, [], 0⟩] scope dpos] [] pos) (eDed i0 Fi) := by
  intro φ Hf0 H0 ρ σ Hf H d Q S hF k
  have pd := pe_dcN (pos := dpos) (l := ⟨wI X tg iter, uG X scope tg, tYes, own.map (·.2)⟩) (tk := uE X scope kx) (tv := uE X scope vx) hc hu hN piW ok rfl hs (fun s H C cl fp => ⟨fun pins s' σ H' v u Q I r h => (h s H C cl fp).h pins s' u I r⟩) (fun _ _ _ _ _ => pts_nil)
    (fun s H C cl fp => ⟨fun pins s' σ H' Q I h => (h s H C cl fp).h pins s' I⟩) (fun s H C cl fp => ⟨fun pins s' σ H' Q I h => (h s H C cl fp).h pins s' I⟩)
  refine toE (pe_callTy (call_tupN hh) hgl hmg hbt (pa_cons pd pa_nil hst) hnm hdb hst hpl) ?_
  change tDcN X.prog X.w X.K ⟨wI X tg iter, uG X scope tg, tYes, own.map (·.2)⟩ (uE X scope kx) (uE X scope vx) σ H (fun v H1 => rTupN X.prog X.w [v] H1 Q)
  refine ded_go hi hg (by simpa using htg) he hv hV0 S hF fun a acc xs Hf' H' hd g m hl hD => ?_
  refine ⟨a, xs, rfl, hD, by rw [← m.length, PySem.sizeLine_eq]; omega, fun q hq => ?_⟩
  subst hd
  have g2 : Gr Hf' H' (upd Hf' q (.tup (xs.map fun x => V.ref x.2.1))) (upd H' q (.tup (xs.map fun x => V.ref x.2.1))) := .new g.s hq
  exact k (.ref q) _ _ (g.trans g2) (.tup (.inl (.inl upd_same)) (m.vals.mono g2.f))
end
end FL
namespace FL
open PySem
/-! ### rows of words, and rules made of them -/
abbrev Strs (zs : List Str) : List D := zs.map D.str
def inS (M : Str) (zs : List Str) : Bool := (Strs zs).any fun z => deq z (.str M)
theorem flat_strs : ∀ zs : List Str, (Strs zs).all flatD = true
  | [] => rfl
  | _ :: zs => flat_strs zs
theorem in_tup (M : Str) (zs : List Str) : inD (.str M) (.tup (Strs zs)) = some (.bl (inS M zs)) := by
  unfold inD
  rw [show inB (.str M) (.tup (Strs zs)) = some (inS M zs) from inB_strs M zs]
theorem inB_lst (M : Str) (zs : List Str) : inB (.str M) (.lst (Strs zs)) = some (inS M zs) := by
  show (if (flatD (.str M) && (Strs zs).all flatD) = true then _ else _) = _
  rw [flat_strs]
  rfl
theorem in_lst (M : Str) (zs : List Str) : inD (.str M) (.lst (Strs zs)) = some (.bl (inS M zs)) := by unfold inD; rw [inB_lst]
theorem nin_lst (M : Str) (zs : List Str) : ninD (.str M) (.lst (Strs zs)) = some (.bl (!inS M zs)) := by unfold ninD; rw [inB_lst]
theorem compL_yes {i : Nat} {E : Env → Option D} {ρ : Env} (f : D → D) : ∀ ds : List D, (∀ d ∈ ds, E (ρ.set i (some d)) = some (f d)) → compL (gSet i) tYesE E ρ ds = some (ds.map f)
  | [], _ => rfl
  | d :: ds, h => by
    unfold compL
    have h1 := h d (.head _)
    have h2 := compL_yes f ds fun x hx => h x (.tail _ hx)
    simp only [gSet, tYesE, h1, h2]
    rfl
theorem compL_if {i : Nat} {T : Env → Option Bool} {E : Env → Option D} {ρ : Env} (p : D → Bool) (f : D → D) : ∀ ds : List D, (∀ d ∈ ds, T (ρ.set i (some d)) = some (p d) ∧ E (ρ.set i (some d)) = some (f d)) → compL (gSet i) T E ρ ds = some ((ds.filter p).map f)
  | [], _ => rfl
  | d :: ds, h => by
    unfold compL
    obtain ⟨h1, h3⟩ := h d (.head _)
    have h2 := compL_if p f ds fun x hx => h x (.tail _ hx)
    simp only [gSet, h1, h2]
    cases hp : p d with
    | false => simp [hp]
    | true => simp [hp, h3]
theorem allBl_bls : ∀ bs : List Bool, allBl (bs.map D.bl) = some bs
  | [] => rfl
  | b :: bs => by
    show (match allBl (bs.map D.bl) with | some bs => some (b :: bs) | none => none) = _
    rw [allBl_bls bs]
theorem allD_bls (bs : List Bool) : allD [.lst (bs.map D.bl)] = some (.bl (bs.all id)) := by
  show (match allBl (bs.map D.bl) with | some bs => some (D.bl (bs.all id)) | none => none) = _
  rw [allBl_bls]
theorem anyD_bls (bs : List Bool) : anyD [.lst (bs.map D.bl)] = some (.bl (bs.any id)) := by
  show (match allBl (bs.map D.bl) with | some bs => some (D.bl (bs.any id)) | none => none) = _
  rw [allBl_bls]
theorem eq_str (x y : Str) : eqD (.str x) (.str y) = some (.bl (sEq x y)) := by kernel_rfl
theorem ne_str (x y : Str) : neD (.str x) (.str y) = some (.bl (!sEq x y)) := by kernel_rfl
/-- a rule: a kind, a claim, what is behind -/
structure Rl where
  k : Str
  a : List Str
  b : List Str
def encRl (r : Rl) : D := .tup [.str r.k, .tup (Strs r.a), .tup (Strs r.b)]
/-- all words of xs are among ys -/
def subS (xs ys : List Str) : Bool := xs.all fun w => inS w ys
/-! without doubles -/
def nkR (r : Rl) : NestedKey := .tup [.text r.k, .tup (r.a.map NestedKey.text), .tup (r.b.map NestedKey.text)]
theorem nkAll_strs : ∀ zs : List Str, nkAll (Strs zs) = some (zs.map NestedKey.text)
  | [] => rfl
  | z :: zs => by
    show (match nkD (.str z) with | some k => (match nkAll (Strs zs) with | some ks => some (k :: ks) | none => none) | none => none) = _
    rw [nkAll_strs zs]
    rfl
theorem nkD_strs (zs : List Str) : nkD (.tup (Strs zs)) = some (.tup (zs.map NestedKey.text)) := by
  show (match nkAll (Strs zs) with | some ks => some (NestedKey.tup ks) | none => none) = _
  rw [nkAll_strs]
theorem nkD_rl (r : Rl) : nkD (encRl r) = some (nkR r) := by
  unfold encRl nkR
  simp only [nkD, nkAll, nkAll_strs]
theorem texts_inj : ∀ {xs ys : List Str}, xs.map NestedKey.text = ys.map NestedKey.text → xs = ys
  | [], [], _ => rfl
  | [], _ :: _, h => by simp at h
  | _ :: _, [], h => by simp at h
  | x :: xs, y :: ys, h => by
    simp only [List.map_cons, List.cons.injEq, NestedKey.text.injEq] at h
    rw [h.1, texts_inj h.2]
theorem nkR_inj {r s : Rl} (h : nkR r = nkR s) : r = s := by
  obtain ⟨k, a, b⟩ := r
  obtain ⟨k', a', b'⟩ := s
  simp only [nkR, NestedKey.tup.injEq, List.cons.injEq, NestedKey.text.injEq, and_true] at h
  rw [h.1, texts_inj h.2.1, texts_inj h.2.2]
theorem depth_texts : ∀ zs : List Str, NestedKey.depthAll (zs.map NestedKey.text) = 0
  | [] => rfl
  | _ :: zs => by
    show max 0 (NestedKey.depthAll (zs.map NestedKey.text)) = 0
    rw [depth_texts zs]
    rfl
theorem depth_rl (r : Rl) : (nkR r).depth ≤ 8 := by
  simp [nkR, NestedKey.depth, NestedKey.depthAll, depth_texts]
def prR (r : Rl) : NestedKey × D := (nkR r, encRl r)
theorem find_mem {α : Type} {p : α → Bool} {x : α} : ∀ {xs ys : List α}, x ∈ xs → (xs ++ x :: ys).find? p = (xs ++ ys).find? p
  | [], _, h => by cases h
  | z :: zs, ys, h => by
    rw [List.cons_append, List.cons_append, List.find?_cons, List.find?_cons]
    cases hp : p z with
    | true => rfl
    | false =>
      rcases List.mem_cons.mp h with rfl | h
      · show (zs ++ x :: ys).find? p = (zs ++ ys).find? p
        rw [List.find?_append, List.find?_append, List.find?_cons, hp]
      · exact find_mem h
theorem ded_rl : ∀ (rs rs0 : List Rl), rs0.length + rs.length < 100000 → ∃ rs' : List Rl, dedG (rs.map encRl) (rs0.map prR) = some (rs'.map prR) ∧ rs'.length ≤ rs0.length + rs.length ∧ (∀ p, rs'.find? p = (rs0 ++ rs).find? p) ∧ ∀ r ∈ rs', r ∈ rs0 ++ rs
  | [], rs0, _ => ⟨rs0, rfl, by simp, fun p => by rw [List.append_nil], fun r hr => by rw [List.append_nil]; exact hr⟩
  | r :: rs, rs0, h => by
    have hl : rs0.length + (rs.length + 1) < 100000 := by simpa using h
    have hok : (isTup (encRl r) && (decide ((nkR r).depth ≤ 8) && decide ((rs0.map prR).length < 100000))) = true := by
      rw [Bool.and_eq_true, Bool.and_eq_true]
      exact ⟨rfl, decide_eq_true (depth_rl r), decide_eq_true (by rw [List.length_map]; omega)⟩
    have e : dedG ((r :: rs).map encRl) (rs0.map prR) = dedG (rs.map encRl) (if ((rs0.map prR).any fun q => NestedKey.beq q.1 (nkR r)) = true then rs0.map prR else rs0.map prR ++ [(nkR r, encRl r)]) := by
      show (match nkD (encRl r) with | some k => _ | none => none) = _
      rw [nkD_rl]
      show (if (isTup (encRl r) && (decide ((nkR r).depth ≤ 8) && decide ((rs0.map prR).length < 100000))) = true then _ else _) = _
      rw [if_pos hok]
    rw [e]
    by_cases hany : ((rs0.map prR).any fun q => NestedKey.beq q.1 (nkR r)) = true
    · rw [if_pos hany]
      obtain ⟨q, hq, hb⟩ := List.any_eq_true.mp hany
      obtain ⟨r0, hr0, rfl⟩ := List.mem_map.mp hq
      have : r0 = r := nkR_inj (NestedKey.eq_of_beq _ _ hb)
      subst this
      obtain ⟨rs', h1, h2, h3, h4⟩ := ded_rl rs rs0 (by omega)
      refine ⟨rs', h1, by rw [List.length_cons]; omega, fun p => (h3 p).trans (find_mem hr0).symm, fun r hr => ?_⟩
      rcases List.mem_append.mp (h4 r hr) with z | z
      · exact List.mem_append_left _ z
      · exact List.mem_append_right _ (List.mem_cons_of_mem _ z)
    · rw [if_neg hany]
      obtain ⟨rs', h1, h2, h3, h4⟩ := ded_rl rs (rs0 ++ [r]) (by rw [List.length_append, List.length_singleton]; omega)
      refine ⟨rs', ?_, by rw [List.length_append, List.length_singleton] at h2; rw [List.length_cons]; omega, fun p => by rw [h3 p, List.append_assoc]; rfl, fun x hx => by have := h4 x hx; rw [List.append_assoc] at this; exact this⟩
      rw [List.map_append] at h1
      exact h1
theorem snd_prR (rs : List Rl) : (rs.map prR).map (·.2) = rs.map encRl := by
  rw [List.map_map]; rfl
theorem eDed_val {i : Nat} {Fi : Env → Option (List D)} {ρ : Env} {ds : List D} {acc : List (NestedKey × D)} (h : Fi ρ = some ds) (hi : i < ρ.length) (k : dedG ds [] = some acc) : eDed i Fi ρ = some (.tup (acc.map (·.2))) := by
  unfold eDed
  rw [h]
  simp only [if_pos hi, k]
/-! a loop that gives the first item -/
theorem first_loop {i : Nat} {B : Env → Option Out} {I : Env → Prop} (p : Rl → Bool) : ∀ (rs : List Rl) (ρ : Env), I ρ → (∀ (r : Rl) (ρ : Env), r ∈ rs → I ρ → ∃ ρ1, gSet i (encRl r) ρ = some ρ1 ∧ (p r = true → B ρ1 = some (.rt (encRl r))) ∧ (p r = false → ∃ ρ2, B ρ1 = some (.nx ρ2) ∧ I ρ2)) →
    (∃ r, rs.find? p = some r ∧ loopF (gSet i) B (rs.map encRl) ρ = some (.rt (encRl r))) ∨ (rs.find? p = none ∧ ∃ ρ', loopF (gSet i) B (rs.map encRl) ρ = some (.nx ρ') ∧ I ρ')
  | [], ρ, hI, _ => .inr ⟨rfl, ρ, rfl, hI⟩
  | r :: rs, ρ, hI, h => by
    obtain ⟨ρ1, e1, h2, h3⟩ := h r ρ (.head _) hI
    rw [List.find?_cons]
    show (∃ r', _ ∧ loopF (gSet i) B (encRl r :: rs.map encRl) ρ = _) ∨ (_ ∧ ∃ ρ', loopF (gSet i) B (encRl r :: rs.map encRl) ρ = _ ∧ _)
    unfold loopF
    rw [e1]
    cases hp : p r with
    | true =>
      refine .inl ⟨r, rfl, ?_⟩
      simp only [h2 hp]
    | false =>
      obtain ⟨ρ2, e2, hI2⟩ := h3 hp
      simp only [e2]
      exact first_loop p rs ρ2 hI2 fun r' ρ' hr' => h r' ρ' (.tail _ hr')
theorem seq_forR {Fi : Env → Option (List D)} {g : D → Env → Option Env} {B G : Env → Option Out} {ρ : Env} {ds : List D} {d : D} (h : Fi ρ = some ds) (k : loopF g B ds ρ = some (.rt d)) : sSeq (sFor Fi g B) G ρ = some (.rt d) := by
  unfold sSeq sFor
  rw [h]
  simp only [k]
/-- the first rule, or None -/
def encO : Option Rl → D
  | some r => encRl r
  | none => .non
theorem ok_strs (n : Nat) (zs : List Str) (h : zs.length < 1000000) : okS (n + 2) (.tup (Strs zs)) = true := by
  simp only [okS, List.length_map, Bool.and_eq_true, decide_eq_true_eq, List.all_eq_true]
  refine ⟨h, fun x hx => ?_⟩
  obtain ⟨z, _, rfl⟩ := List.mem_map.mp hx
  rfl
theorem ok_rl (r : Rl) (ha : r.a.length < 1000000) (hb : r.b.length < 1000000) : okS 6 (encRl r) = true := by
  have h1 := ok_strs 3 r.a ha
  have h2 := ok_strs 3 r.b hb
  show (decide (3 < 1000000) && (okS 5 (.str r.k) && (okS 5 (.tup (Strs r.a)) && (okS 5 (.tup (Strs r.b)) && true)))) = true
  rw [h1, h2]
  rfl
end FL
namespace FL
open PySem PySem.Spec L2

/-! ### what a class of our own makes of operators -/
theorem insAt {X : Cx} {pins : List (Addr × Obj)} {σ : L2.St} {H : Hp} {s : Shared} {a C dx : Addr} {gs : List (Str × V)} (I : Inv X pins σ H s) (h : H a = some (.ins C dx gs)) : ∃ ox od, PySem.W.InstAt s.heap a ox C od := by
  obtain ⟨_, T, _⟩ := ins_get I.hok h
  obtain ⟨_, J, _⟩ := T.look
  exact ⟨_, _, J⟩
section
variable {X : Cx} {O : List Nat} {c : Str} {j k : Nat} {mir : List D → Option D}
/-- the method's run, its arguments there -/
theorem me_run {A : Around} {m : Str} {n : Nat} {f : Addr} {fd : FuncData} {ps : List Str} (Fn : FnOk X.prog X.w X.K X.mg X.base CX0 j f fd ps (spF X.K false n mir)) (hb : Binds X.K fd ps [])
    {pins : List (Addr × Obj)} {σ : L2.St} {H : Hp} {s : Shared} {vs : List V} {us : List Value} {Q : VK} (hr : Room j A) (e0 : Env0 X.prog X.w X.K X.mg X.base A X.stack s H) (I : Inv X pins σ H s) (r : Vals vs us) (q : spF X.K false n mir vs H Q fun _ _ _ => False) :
    wpAny (model X.prog X.w) A (call (.ref f) us) (EP X pins σ Q) X.xe s := by
  have l : us.length = ps.length := by rw [← r.length]; exact Fn.len _ _ _ _ q
  have b := hb s us I.kIn (by rw [List.append_nil]; exact l)
  rw [List.append_nil] at b
  refine wpAny_call (codeAny_mono (Fn.run A X.stack s H ⟨us, []⟩ us vs Q _ hr e0 b r q) fun z s' hz => ?_)
  match z, hz with
  | .ok (.ret u), hz => exact I.after hz
  | .error _, hz => exact False.elim hz
def opI (c : Str) (mir : List D → Option D) : D → D → Option D := fun x y => match x, y with
  | .ins c1 f1 x1, .ins c2 f2 x2 => if c1 = c ∧ c2 = c then mir [.ins c1 f1 x1, .ins c2 f2 x2] else none
  | _, _ => none
theorem opI_some {x y d : D} (h : opI c mir x y = some d) : ∃ f1 x1 f2 x2, x = .ins c f1 x1 ∧ y = .ins c f2 x2 ∧ mir [x, y] = some d := by
  unfold opI at h
  split at h
  · split at h
    · rename_i hc
      obtain ⟨rfl, rfl⟩ := hc
      exact ⟨_, _, _, _, rfl, rfl, h⟩
    · cases h
  · cases h
def rMe (K : PySem.W.Frag) (c : Str) (mir : List D → Option D) : R2 := fun x y H Q => ∃ a dx gs b dy hs, x = .ref a ∧ y = .ref b ∧ H a = some (.ins (He.ga K c) dx gs) ∧ H b = some (.ins (He.ga K c) dy hs) ∧ spF K false 2 mir [x, y] H Q fun _ _ _ => False
theorem calM_nil {m : Str} {n : Nat} (cm : CalM X.prog X.w X.K X.mg X.base j c m false n mir []) : ∃ (f : Addr) (fd : FuncData) (ps : List Str), FnOk X.prog X.w X.K X.mg X.base CX0 j f fd ps (spF X.K false n mir) ∧ Cls X.K (He.ga X.K c) ∧ Meth X.K (He.ga X.K c) m f ∧ Binds X.K fd ps [] := by
  obtain ⟨f, fd, ps, us, dvs, Fn, hc, hm, hb, hd, hdf⟩ := cm.ok
  have h1 : dvs = [] := by cases hdf (fun _ => none) (fun _ => none); rfl
  subst h1
  have h2 : us = [] := by cases hd; rfl
  subst h2
  exact ⟨f, fd, ps, Fn, hc, hm, hb⟩
theorem op_me {op : Operator} {m0 : Str} (cm : CalM X.prog X.w X.K X.mg X.base j c m0 false 2 mir []) (sf : PySem.W.selfFirst X.K (He.ga X.K c) = true) (hr : Room k X.A) (hk : j ≤ k) (he : PySem.dunder op.info.2 = m0 := by kernel_rfl) : OpR X (binaryOp op) (rMe X.K c mir) := by
  subst he
  obtain ⟨f, fd, ps, Fn, hc, hm, hb⟩ := calM_nil cm
  intro pins s σ H x y v u Q I rx ry h
  obtain ⟨a, dx, gs, b, dy, hs, rfl, rfl, h1, h2, q⟩ := h
  cases rx
  cases ry
  obtain ⟨ox, od, J⟩ := insAt I h1
  obtain ⟨ox', od', J'⟩ := insAt I h2
  obtain ⟨m, hF⟩ := I.fr
  refine PySem.W.binop_K hF I.ok.mod.kin J J'.type sf hm.at_ hm.fn ?_
  refine wpAny_mono (me_run (m := c) (vs := [.ref a, .ref b]) (us := [.ref a, .ref b]) Fn hb (hr.mono hk) I.env0 I (.cons rfl (.cons rfl .nil)) q) (fun w s' z => ?_) fun _ _ z => z
  obtain ⟨z', H', I', rz, qz⟩ := z
  exact SlX.cmpback rz ⟨z', H', I', rz, qz⟩
theorem o_me : Op2 X.K (rMe X.K c mir) (opI c mir) := by
  intro φ Hf H x y d v u Q s rx ry h q
  obtain ⟨f1, x1, f2, x2, rfl, rfl, h2⟩ := opI_some h
  rcases rx with rx | ⟨_, _, _, e, _⟩
  · rcases ry with ry | ⟨_, _, _, e, _⟩
    · cases rx with
      | ins ha hl r =>
        cases ry with
        | ins ha' hl' r' =>
          exact ⟨_, _, _, _, _, _, rfl, rfl, s _ _ ha, s _ _ ha', φ, Hf, _, d, s, .cons (.ins ha hl r) (.one (.ins ha' hl' r')), rfl, h2, fun z Hf2 H2 g2 r2 => q z Hf2 H2 g2 r2⟩
    · cases e
  · cases e
/-! x in o -/
def inI (c : Str) (mir : List D → Option D) (neg : Bool) : D → D → Option D := fun x y => match x with
  | .lst _ => none
  | x => (match y with
    | .ins c2 f2 x2 => if c2 = c then (match mir [.ins c2 f2 x2, x] with | some (.bl t) => some (.bl (neg != t)) | _ => none) else none
    | _ => none)
theorem inI_some {neg : Bool} {x y d : D} (h : inI c mir neg x y = some d) : ∃ f2 x2 t, y = .ins c f2 x2 ∧ mir [y, x] = some (.bl t) ∧ d = .bl (neg != t) ∧ isLst x = isLst x ∧ ∀ xs, x ≠ .lst xs := by
  unfold inI at h
  split at h
  · cases h
  · rename_i hn
    split at h
    · split at h
      · rename_i hc
        subst hc
        split at h
        · rename_i t ht
          cases h
          exact ⟨_, _, t, rfl, ht, rfl, rfl, hn⟩
        · cases h
      · cases h
    · cases h
def rIn (K : PySem.W.Frag) (c : Str) (mir : List D → Option D) (neg : Bool) : R2 := fun x y H Q => ∃ b dy hs, y = .ref b ∧ H b = some (.ins (He.ga K c) dy hs) ∧ spF K false 2 mir [y, x] H (fun z H' => ∃ t, z = .bl t ∧ Q (.bl (neg != t)) H') fun _ _ _ => False
theorem op_inI (cm : CalM X.prog X.w X.K X.mg X.base j c "__contains__" false 2 mir []) (hr : Room k X.A) (hk : j ≤ k) : OpR X (compareOp .In) (rIn X.K c mir false) := by
  obtain ⟨f, fd, ps, Fn, hc, hm, hb⟩ := calM_nil cm
  intro pins s σ H x y v u Q I rx ry h
  obtain ⟨b, dy, hs, rfl, h2, q⟩ := h
  cases ry
  obtain ⟨ox', od', J'⟩ := insAt I h2
  obtain ⟨m, hF⟩ := I.fr
  refine PySem.W.in_K hF I.ok.mod.kin J' hm.at_ hm.fn ?_
  refine wpAny_mono (me_run (m := c) (vs := [.ref b, x]) (us := [.ref b, v]) Fn hb (hr.mono hk) I.env0 I (.cons rfl (.cons rx .nil)) q) (fun w s' z => ?_) fun _ _ z => z
  obtain ⟨z', H', I', rz, t, rfl, qz⟩ := z
  cases rz
  exact wpAny_of_eq (a := t) rfl ⟨.bl t, H', I', rfl, by simpa using qz⟩
theorem op_ninI (cm : CalM X.prog X.w X.K X.mg X.base j c "__contains__" false 2 mir []) (hr : Room k X.A) (hk : j ≤ k) : OpR X (compareOp .NotIn) (rIn X.K c mir true) := by
  obtain ⟨f, fd, ps, Fn, hc, hm, hb⟩ := calM_nil cm
  intro pins s σ H x y v u Q I rx ry h
  obtain ⟨b, dy, hs, rfl, h2, q⟩ := h
  cases ry
  obtain ⟨ox', od', J'⟩ := insAt I h2
  obtain ⟨m, hF⟩ := I.fr
  refine PySem.W.notIn_K hF I.ok.mod.kin J' hm.at_ hm.fn ?_
  refine wpAny_mono (me_run (m := c) (vs := [.ref b, x]) (us := [.ref b, v]) Fn hb (hr.mono hk) I.env0 I (.cons rfl (.cons rx .nil)) q) (fun w s' z => ?_) fun _ _ z => z
  obtain ⟨z', H', I', rz, t, rfl, qz⟩ := z
  cases rz
  exact wpAny_of_eq (a := t) rfl ⟨.bl (!t), H', I', rfl, by simpa using qz⟩
theorem o_inI {neg : Bool} : Op2 X.K (rIn X.K c mir neg) (inI c mir neg) := by
  intro φ Hf H x y d v u Q s rx ry h q
  obtain ⟨f2, x2, t, rfl, h2, rfl, _, hn⟩ := inI_some h
  rcases rx with rx | ⟨_, xs, _, e, _⟩
  · rcases ry with ry | ⟨_, _, _, e, _⟩
    · cases ry with
      | ins ha' hl' r' =>
        refine ⟨_, _, _, rfl, s _ _ ha', φ, Hf, _, _, s, .cons (.ins ha' hl' r') (.one rx), rfl, h2, fun z Hf2 H2 g2 r2 => ?_⟩
        cases r2
        exact ⟨t, rfl, q _ Hf2 H2 g2 (.bl _)⟩
    · cases e
  · exact absurd e (hn xs)
/-! len(o) -/
def lenI (c : Str) (mir : List D → Option D) : List D → Option D := fun xs => match xs with
  | [.ins c1 f1 x1] => if c1 = c then (match mir [.ins c1 f1 x1] with | some (.int n) => if 0 ≤ n ∧ n < 2 ^ 63 then some (.int n) else none | _ => none) else none
  | _ => none
theorem lenI_some {xs : List D} {d : D} (h : lenI c mir xs = some d) : ∃ f1 x1 n, xs = [.ins c f1 x1] ∧ mir [.ins c f1 x1] = some (.int n) ∧ 0 ≤ n ∧ n < 2 ^ 63 ∧ d = .int n := by
  unfold lenI at h
  split at h
  · split at h
    · rename_i hc
      subst hc
      split at h
      · rename_i n hn
        split at h
        · rename_i hb
          cases h
          exact ⟨_, _, n, rfl, hn, hb.1, hb.2, rfl⟩
        · cases h
      · cases h
    · cases h
  · cases h
def rLenI (K : PySem.W.Frag) (c : Str) (mir : List D → Option D) : List V → Hp → VK → Prop := fun xs H Q => ∃ a dx gs, xs = [.ref a] ∧ H a = some (.ins (He.ga K c) dx gs) ∧ spF K false 1 mir xs H (fun z H' => ∃ n : Int, z = .int n ∧ 0 ≤ n ∧ n < 2 ^ 63 ∧ Q (.int n) H') fun _ _ _ => False
theorem c_lenI (cm : CalM X.prog X.w X.K X.mg X.base j c "__len__" false 1 mir []) (hr : Room k X.A) (hk : j + 1 ≤ k) : CallR X (.builtin "len") (rLenI X.K c mir) := by
  obtain ⟨f, fd, ps, Fn, hc, hm, hb⟩ := calM_nil cm
  intro pins s σ H xs us Q I r h
  obtain ⟨a, dx, gs, rfl, h1, q⟩ := h
  obtain rfl := Vals.ref1 r
  obtain ⟨ox, od, J⟩ := insAt I h1
  obtain ⟨m, hF⟩ := I.fr
  have hr1 : Room j X.A.in1 := Room.in1 (hr.mono hk)
  refine PySem.W.len_K hF I.ok.mod.kin J hm.at_ hm.fn ?_
  refine wpAny_mono (me_run (m := c) (vs := [.ref a]) (us := [.ref a]) Fn hb hr1 I.env0.in1 I (.cons rfl .nil) q) (fun w s' z => ?_) fun _ _ z => z
  obtain ⟨z', H', I', rz, n, rfl, n1, n2, qz⟩ := z
  obtain ⟨t, rfl⟩ := (show ∃ t, w = Value.int n t from rz)
  exact ⟨⟨n1, n2⟩, .int n, H', I'.tok _, ⟨_, rfl⟩, qz⟩
theorem o_lenI : OpL X.K (rLenI X.K c mir) (lenI c mir) := by
  intro φ Hf H xs d vs Q s r h q
  obtain ⟨f1, x1, n, rfl, h2, n1, n2, rfl⟩ := lenI_some h
  cases r with
  | cons r0 t =>
    cases t
    rcases r0 with r0 | ⟨_, _, _, e, _⟩
    · cases r0 with
      | ins ha hl r =>
        refine ⟨_, _, _, rfl, s _ _ ha, φ, Hf, _, _, s, .one (.ins ha hl r), rfl, h2, fun z Hf2 H2 g2 r2 => ?_⟩
        cases r2
        exact ⟨n, rfl, n1, n2, q _ Hf2 H2 g2 (.int _)⟩
    · cases e
end
end FL
namespace FL
open PySem PySem.Spec PyProof.Rows L2

/-! ### for x in o, o of a class of our own whose __iter__ gives a tuple's iterator -/
/-- a def, run at one very call -/
theorem run_here {P : Program} {w : World} {K : PySem.W.Frag} {mg : Str → Option Value} {base : Heap} {k : Nat} {f : Addr} {fd : FuncData} {x q : Str} {st : Stmt} {dvs : List V} {kws : List (Str × V)} {N ps : List Str}
    (F : FunD K x q (defArgs st) (defBody st) (defScope st) dvs kws f fd) (S : FnScope N ps (defScope st)) {A : Around} {outer : List PySem.Env} {s : Shared} {H : Hp} {us : List Value} {vs : List V} {Qk : VK} (hr : Room (k + 1) A) (e0 : Env0 P w K mg base A outer s H)
    (bt : BindsTo s fd ⟨us, []⟩ (ps.zip us)) (rv : Vals vs us) (hl : vs.length = ps.length)
    (hb : ∀ (cdv : Value), Room k (A.deeper (envOfC q (defScope st) s.heap.objs.size f cdv)) → ∃ t, PSs (cxOf CX0 P w K mg base N q (defScope st) f cdv A outer s H fun _ _ _ => False) (defBody st) t ∧ t { nx := fun _ _ => False, rt := Qk } (L2.start N vs) H) :
    codeAny (model P w) A (.call (.ref f) ⟨us, []⟩) (CR CX0 outer P w H s Qk fun _ _ _ => False) s := by
  obtain ⟨oc, od, dV, kV, doc, pm, an, cdv, ct, osl, rfl, lk, hcd, _, _⟩ := F.ex
  have kin : K.In s.heap := e0.mod.kin.keeps fun c u z => (e0.bs c u z).left
  have bnd : ∀ y ∈ ps.zip us, (defScope st).names.lookup y.1 = some .local ∨ ((defScope st).names.lookup y.1 = some .cell ∧ ((cellsFrom (s.heap.objs.size + 1) (defScope st).names []).lookup y.1).isSome = true) := by
    rintro ⟨n, v⟩ hy
    cases S.par n (List.of_mem_zip hy).1 with
    | inl z => exact Or.inl z
    | inr z => exact Or.inr ⟨z, PySem.W.cellsFrom_some _ _ _ (Or.inl z)⟩
  obtain ⟨t, ht, hq⟩ := hb cdv (hr.deeper _)
  refine codeAny_call_function hr.depth (kin _ _ lk) rfl S.co S.gen rfl (PySem.W.codeRec_of kin hcd) (bt _ _ _ _ (wpAny_newFunctionEnv_cells S.kind bnd fun env he s1 z => ?_))
  cases he
  have I := inv_start (CX := CX0) (E := fun _ _ _ => False) S hr.hd e0 hl rv z
  refine ⟨(e0.mod.nolimit.keeps fun c u y => (e0.bs c u y).left).keeps z.toInCall.keep, codeAny_func (wpAny_mono (ht.run [] s1 _ H _ I hq) (fun fl s' hs => ?_) fun _ _ hs => hs)⟩
  match fl, hs with
  | .ret u, ⟨v, _, H', J, r, qq⟩ => exact ⟨v, H', J.os, J.bare, J.base, J.hok, r, qq⟩
  | .next, ⟨_, _, _, qq⟩ => exact qq.elim
  | .brk, ⟨_, _, _, qq⟩ => exact qq.elim
  | .cont, ⟨_, _, _, qq⟩ => exact qq.elim
/-- a tuple's iterator at its first place -/
def TiO (t it : Addr) : HO := .ext fun h => h.get? it = some { cls := .type "tuple_iterator", data := .fields #[.ref t, .int 0 0] }
theorem tiO_ok {P : Program} {w : World} {H : Hp} {h : Heap} {t it : Addr} (e : h.get? it = some { cls := .type "tuple_iterator", data := .fields #[.ref t, .int 0 0] }) : ObjOk P w H h it (TiO t it) := ⟨e, ⟨_, e⟩, fun _ _ z k => k _ z⟩
def rItT (K : PySem.W.Frag) (n : Nat) : List V → Hp → VK → Prop := fun xs H Q => ∃ t zs, xs = [.ref t] ∧ SqT K H t zs ∧ ∀ it, H it = none → n ≤ it → Q (.ref it) (upd H it (TiO t it))
theorem c_iterT {X : Cx} : CallR X (.builtin "iter") (rItT X.K X.s_0.heap.objs.size) := by
  intro pins s σ H xs us Q I r h
  obtain ⟨t, zs, rfl, hq, q⟩ := h
  obtain rfl := Vals.ref1 r
  obtain ⟨its, _, p, _⟩ := I.tuple hq
  refine Calls.call_function_entry (by decide +kernel) (by decide +kernel) PySem.W.kdk_entry_iter (PySem.W.kdk_args_iter _) ?_
  unfold Builtin.«iter»
  refine wpAny_bind (m := someArgs "iter" 1 2 _) (wpAny_of_eq (a := [Value.ref t]) (by first | rfl | kernel_rfl!) ?_)
  show wpAny _ _ (pyIter (.ref t) >>= _) _ _ _
  refine wpAny_bind (wpAny_pyIter_tuple (show s.heap.IsTuple t its.toArray from p) (wpAny_pure ⟨_, rfl, ?_⟩))
  exact ⟨.ref s.heap.objs.size, _, I.laid (t' := s.toks) (fun b u e => Heap.get?_push_of_some _ e) (Nat.le_refl _) (tiO_ok (Heap.get?_push_size _ rfl)), rfl, q _ (I.hok.fresh (Nat.le_refl _)) I.sz⟩
/-- the promise of such an __iter__ -/
structure CalI (P : Program) (w : World) (K : PySem.W.Frag) (mg : Str → Option Value) (base : Heap) (k : Nat) (c g : Str) : Prop where
  ok : ∃ f, Meth K (He.ga K c) "__iter__" f ∧ Cls K (He.ga K c) ∧ ∀ (A : Around) (outer : List PySem.Env) (s : Shared) (H : Hp) (a dx t : Addr) (gs : List (Str × V)) (zs : List V), Room k A → Env0 P w K mg base A outer s H → K.In s.heap → H a = some (.ins (He.ga K c) dx gs) → gs.lookup g = some (.ref t) → SqT K H t zs →
    codeAny (model P w) A (.call (.ref f) ⟨[.ref a], []⟩) (CR CX0 outer P w H s (fun z H' => ∃ it, z = .ref it ∧ H it = none ∧ s.heap.objs.size ≤ it ∧ H' = upd H it (TiO t it)) fun _ _ _ => False) s
section
variable {P : Program} {w : World} {K : PySem.W.Frag} {mg : Str → Option Value} {base : Heap} {k : Nat} {c g q self : Str} {N : List Str} {st : Stmt} {p1 p2 p3 p4 p5 : Pos}
theorem calI_of (Dd : FnAt K "__iter__" q st [] [] (He.fAd K (c, some "__iter__"))) (hc : Cls K (He.ga K c)) (hm : Meth K (He.ga K c) "__iter__" (He.fAd K (c, some "__iter__"))) (hn : NoAttr K (He.ga K c) g) (S : FnScope N [self] (defScope st)) (hmg : mg "iter" = none)
    (hbind : ∀ (kV doc pm : Value) (an : Option Addr) (cdv ct : Value) (us : List Value), us.length = 1 → bindArgs (PySem.W.fnOf "__iter__" q (defArgs st) (defBody st) (defScope st) .none kV doc pm an cdv ct) ⟨us, []⟩ = pure ([self].zip us))
    (hbody : defBody st = [.Return (some (.Call (.Name "iter" p1) [.Attribute (.Name self p2) g p3] [] p4)) p5])
    (hN : N[0]? = some self) (hd : (self == ("__debug__" : Str)) = false) (hcd : (self == ("__classdict__" : Str)) = false)
    (hgl : ∀ (s : Shared) (a : Addr) (cdv : Value), (envOfC q (defScope st) s.heap.objs.size a cdv).kindOf "iter" = some .globalImplicit)
    (hv : ∀ (s : Shared) (a : Addr) (cdv : Value), Vis (envOfC q (defScope st) s.heap.objs.size a cdv).scope self) : CalI P w K mg base (k + 1) c g := by
  obtain ⟨fd, F⟩ := Dd
  have hb := FunD.bindsN F (ps := [self]) hbind
  refine ⟨_, hm, hc, fun A outer s H a dx t gs zs hr e0 kin h1 h2 h3 => run_here F S hr e0 ?_ (vs := [.ref a]) (.cons rfl .nil) rfl fun cdv hr2 => ?_⟩
  · have b := hb s [.ref a] kin rfl
    rw [List.append_nil] at b
    exact b
  · rw [hbody]
    refine ⟨_, pss_cons (ps_ret (pe_callB c_iterT (hgl _ _ _) hmg rfl (pa_cons (pe_fld (pe_var hN (hv _ _ _) hd hcd) rfl) pa_nil rfl) (by decide) (by decide) rfl rfl)) pss_nil, ?_⟩
    have h0 : (L2.start N [V.ref a])[0]? = some (some (.ref a)) := rfl
    refine ⟨.ref a, h0, a, He.ga K c, dx, gs, .ref t, rfl, h1, hc, hn, h2, t, zs, rfl, h3, fun it n1 n2 => ⟨it, rfl, n1, n2, rfl⟩⟩
end
section
variable {X : Cx} {O : List Nat} {c g : Str} {j k : Nat} {tg e : Expr} {F : Env → Option D}
def iOwn (c g : Str) (F : Env → Option D) : Env → Option (List D) := fun ρ => match F ρ with | some d => (match fldD c g d with | some (.tup ds) => some ds | _ => none) | none => none
theorem fi_own (cm : CalI X.prog X.w X.K X.mg X.base j c g) (hr : Room k X.A) (hk : j ≤ k) (h : FE X O e F) : FI X O tg e (iOwn c g F) := by
  obtain ⟨f, hm, hc, Fn⟩ := cm.ok
  intro φ Hf0 H0 ρ σ Hf H ds R S hF q
  refine ⟨fun pins s I => ?_⟩
  unfold iOwn at hF
  split at hF
  · rename_i d h1
    split at hF
    · rename_i ds' h2
      cases hF
      obtain ⟨fs, xs, rfl, h3⟩ := fldD_some h2
      refine thn ((h φ Hf0 H0 ρ σ Hf H _ (fun v H1 => ∃ a dx gs t zs, v = .ref a ∧ H1 a = some (.ins (He.ga X.K c) dx gs) ∧ gs.lookup g = some (.ref t) ∧ SqT X.K H1 t zs ∧ R (Itt X.K t) H1) S h1 (fun v Hf1 H1 g1 r1 => ?_)).h pins s I) fun u s1 hu => ?_
      · cases r1 with
        | ins ha hl r =>
          obtain ⟨v, e1, e2⟩ := lkD_ok _ r h3
          cases e2 with
          | tup sq rr => exact ⟨_, _, _, _, _, rfl, g1.s _ _ ha, e1, SqT_same g1.s sq, q _ Hf1 H1 g1 (itD_tup sq rr)⟩
      · obtain ⟨_, H1, I1, rv, a, dx, gs, t, zs, rfl, ha, hl, hs, qq⟩ := hu
        cases rv
        obtain ⟨ox, od, J⟩ := insAt I1 ha
        obtain ⟨m, hF⟩ := I1.fr
        refine PySem.W.owit_iter hF I1.ok.mod.kin J hm.at_ hm.fn (wpAny_call (codeAny_mono (Fn X.A X.stack s1 H1 a dx t gs zs (hr.mono hk) I1.env0 I1.kIn ha hl hs) fun z s2 hz => ?_))
        match z, hz with
        | .error _, hz => exact False.elim hz
        | .ok (.ret u), hz =>
          obtain ⟨v2, H2, os, bare, un, hok, r2, it, e1, n1, n2, e2⟩ := hz
          subst e1
          subst e2
          cases r2
          obtain ⟨hh, gg, dd, tt, os'⟩ := s2
          obtain rfl : os' = s1.os := os
          have I2 : Inv X pins σ (upd H1 it (TiO t it)) ⟨hh, gg, dd, tt, s1.os⟩ := I1.call (h' := hh) (g' := gg) (d' := dd) (t' := tt) (ch := []) un hok bare (fun b z => absurd z (by simp))
          have hit : (upd H1 it (TiO t it)) it = some (TiO t it) := upd_same
          have obj := (I2.hok it _ hit).1
          have hT : Shared.TypeIs ⟨hh, gg, dd, tt, s1.os⟩ (.ref it) "tuple_iterator" := ⟨_, obj, rfl⟩
          unfold PySem.W.OwitIt
          refine wpAny_specialOf (name := Str.ofString "__next__") hT PySem.F.slot_tuple_iterator_next.lookup ?_
          have dr : ItX.dropH (upd H1 it (TiO t it)) it = H1 := ItX.dropH_upd n1
          have I3 := ItX.inv_drop I2 (show (upd H1 it (TiO t it)) it = some (.ext _) from hit)
          rw [dr] at I3
          have fp := ItX.inv_fp I2 hit (Nat.le_trans I1.sz n2)
          rw [dr] at fp
          exact ⟨it, [it], _, Itt X.K t, H1, rfl, I3, turn_tuple t it, ⟨_, obj, rfl, rfl⟩, fun b hb => by
            have : b = it := by simpa using hb
            rw [this]; exact fp, qq⟩
    · cases hF
  · cases hF
end
end FL
namespace FL
open PySem PySem.Spec L2

/-! ### an expression that reads lists of our own and is worth something with no list in it -/
section
variable {K : PySem.W.Frag} {φ : Nat → Option Addr} {Hf0 H0 Hf H : Hp} {O : List Nat} {ρ : Env} {σ : L2.St}
/-- what is new in Hf1 are lists -/
def NewL (Hf Hf1 : Hp) : Prop := ∀ a o, Hf1 a = some o → Hf a = none → ∃ vs, o = .lst vs
theorem NewL.refl {Hf : Hp} : NewL Hf Hf := fun a o h1 h2 => by rw [h2] at h1; cases h1
theorem NewL.trans {Hf Hf1 Hf2 : Hp} (s : Same Hf1 Hf2) (a : NewL Hf Hf1) (b : NewL Hf1 Hf2) : NewL Hf Hf2 := fun x o h1 h2 => by
  cases e : Hf1 x with
  | none => exact b x o h1 e
  | some u =>
    have := s _ _ e
    rw [h1] at this
    cases this
    exact a x o e h2
theorem SR.freezeL (S : SR K φ Hf0 H0 O ρ σ Hf H) (i : Nat) : ∃ Hf1, Same Hf Hf1 ∧ NewL Hf Hf1 ∧ SR K φ Hf0 H0 (O.filter (· != i)) ρ σ Hf1 H := by
  have mem : ∀ j, j ∈ O.filter (· != i) ↔ j ∈ O ∧ j ≠ i := fun j => by simp [List.mem_filter]
  have plain : (∀ d, ρ[i]? = some (some d) → i ∉ O) → SR K φ Hf0 H0 (O.filter (· != i)) ρ σ Hf H := fun hno =>
    ⟨S.len, S.sub, S.gf, S.gh, S.gn, fun j d e n => S.val j d e fun z => if h : j = i then hno d (h ▸ e) (h ▸ z) else n ((mem j).mpr ⟨z, h⟩),
      fun j d e m => S.own j d e ((mem j).mp m).1, fun j k d e a h1 h2 m1 m2 => S.ne j k d e a h1 h2 ((mem j).mp m1).1 ((mem k).mp m2).1⟩
  by_cases hi : i ∈ O
  · rcases hq : ρ[i]? with _ | _ | d
    · exact ⟨Hf, Same.refl _, .refl, plain fun d e => by rw [hq] at e; cases e⟩
    · exact ⟨Hf, Same.refl _, .refl, plain fun d e => by rw [hq] at e; cases e⟩
    · obtain ⟨a, xs, vs, e1, e2, e3, e4, e5, r⟩ := S.own i d hq hi
      subst e1
      have sf : Same Hf (upd Hf a (.lst vs)) := same_upd e4
      refine ⟨upd Hf a (.lst vs), sf, fun b o h1 h2 => ?_, S.len, fun b u e => ?_, S.gf.trans sf, S.gh, fun b u h1 h2 => by rw [upd_ne (ne_of_none h1 e5)]; exact S.gn b u h1 h2, fun j d' e n => ?_, fun j d' e m => ?_, fun j k d' e' b h1 h2 m1 m2 => S.ne j k d' e' b h1 h2 ((mem j).mp m1).1 ((mem k).mp m2).1⟩
      · by_cases hb : b = a
        · rw [hb, upd_same] at h1; exact ⟨vs, (Option.some.inj h1).symm⟩
        · rw [upd_ne hb, h2] at h1; cases h1
      · by_cases hb : b = a
        · subst hb; rw [upd_same] at e; cases e; exact e3
        · rw [upd_ne hb] at e; exact S.sub _ _ e
      · by_cases h : j = i
        · subst h
          rw [hq] at e; cases e
          exact ⟨.ref a, e2, .lst upd_same (r.mono sf)⟩
        · obtain ⟨v, q1, q2⟩ := S.val j d' e fun z => n ((mem j).mpr ⟨z, h⟩)
          exact ⟨v, q1, q2.mono sf⟩
      · obtain ⟨m1, n1⟩ := (mem j).mp m
        obtain ⟨b, ys, ws, q1, q2, q3, q4, q5, r2⟩ := S.own j d' e m1
        have hba : b ≠ a := fun z => S.ne i j _ d' b hq e hi m1 (Ne.symm n1) (z ▸ e2) q2
        exact ⟨b, ys, ws, q1, q2, q3, by rw [upd_ne hba]; exact q4, q5, r2.mono sf⟩
  · exact ⟨Hf, Same.refl _, .refl, plain fun _ _ => hi⟩
theorem SR.weakL' (S : SR K φ Hf0 H0 O ρ σ Hf H) : ∀ l : List Nat, ∃ Hf1, Same Hf Hf1 ∧ NewL Hf Hf1 ∧ SR K φ Hf0 H0 (O.filter fun j => !l.contains j) ρ σ Hf1 H
  | [] => ⟨Hf, Same.refl _, .refl, S.memEq fun i => by simp⟩
  | i :: l => by
    obtain ⟨Hf1, s1, n1, S1⟩ := SR.weakL' S l
    obtain ⟨Hf2, s2, n2, S2⟩ := S1.freezeL i
    refine ⟨Hf2, s1.trans s2, n1.trans s2 n2, S2.memEq fun j => ?_⟩
    simp only [List.mem_filter, List.contains_cons, Bool.not_or, Bool.and_eq_true, Bool.not_eq_true', bne_iff_ne, ne_eq, beq_eq_false_iff_ne]
    exact ⟨fun ⟨a, b, c⟩ => ⟨⟨a, c⟩, b⟩, fun ⟨⟨a, c⟩, b⟩ => ⟨a, b, c⟩⟩
theorem SR.weakL (S : SR K φ Hf0 H0 O ρ σ Hf H) (L : List Nat) (hL : L.all (O.contains ·) = true) : ∃ Hf1, Same Hf Hf1 ∧ NewL Hf Hf1 ∧ SR K φ Hf0 H0 L ρ σ Hf1 H := by
  obtain ⟨Hf1, s1, n1, S1⟩ := S.weakL' (O.filter fun j => !L.contains j)
  refine ⟨Hf1, s1, n1, S1.memEq fun j => ?_⟩
  have hs : ∀ j ∈ L, j ∈ O := fun j hj => by simpa using (List.all_eq_true.mp hL) j hj
  simp only [List.mem_filter, Bool.not_eq_true', List.contains_eq_mem, decide_eq_false_iff_not]
  refine ⟨fun hj => ⟨hs j hj, fun z => by simp_all⟩, fun ⟨a, b⟩ => ?_⟩
  by_cases h : j ∈ L
  · exact h
  · exact absurd (by simp [a, h]) b
end
/-! no list in it -/
mutual
def noL : D → Bool
  | .tup xs => noLs xs | .lst _ => false | .klst _ => false | .ins _ _ xs => noLs xs | .dct _ xs => noLs xs | .obj _ => false | _ => true
def noLs : List D → Bool
  | [] => true
  | d :: ds => noL d && noLs ds
end
section
variable {K : PySem.W.Frag} {φ : Nat → Option Addr} {H H' : Hp}
theorem SqT_keep (k : ∀ a o, H a = some o → (∀ vs, o ≠ .lst vs) → H' a = some o) {a : Addr} {xs : List V} (h : SqT K H a xs) : SqT K H' a xs := by
  rcases h with (h | ⟨o, h⟩) | h
  · exact .inl (.inl (k _ _ h fun _ z => by cases z))
  · exact .inl (.inr ⟨o, k _ _ h fun _ z => by cases z⟩)
  · exact .inr h
mutual
theorem Rp.keep (k : ∀ a o, H a = some o → (∀ vs, o ≠ .lst vs) → H' a = some o) : ∀ {d : D} {v : V}, noL d = true → Rp K φ H d v → Rp K φ H' d v
  | .non, _, _, .non => .non
  | .bl _, _, _, .bl b => .bl b
  | .int _, _, _, .int i => .int i
  | .str _, _, _, .str y => .str y
  | .tup _, _, h, .tup s r => .tup (SqT_keep k s) (RpAll.keep k (by simpa [noL] using h) r)
  | .lst _, _, h, _ => by simp [noL] at h
  | .klst _, _, h, _ => by simp [noL] at h
  | .obj _, _, h, _ => by simp [noL] at h
  | .ins _ _ _, _, h, .ins s l r => .ins (k _ _ s fun _ z => by cases z) l (RpAll.keep k (by simpa [noL] using h) r)
  | .dct _ _, _, h, .dct s l r => .dct (s.imp (fun s => k _ _ s fun _ z => by cases z) fun ⟨o, s⟩ => ⟨o, k _ _ s fun _ z => by cases z⟩) l (RpAll.keep k (by simpa [noL] using h) r)
theorem RpAll.keep (k : ∀ a o, H a = some o → (∀ vs, o ≠ .lst vs) → H' a = some o) : ∀ {ds : List D} {vs : List V}, noLs ds = true → RpAll K φ H ds vs → RpAll K φ H' ds vs
  | [], _, _, .nil => .nil
  | _ :: _, _, h, .cons r t => by
    have h' := Bool.and_eq_true_iff.mp (show (noL _ && noLs _) = true from h)
    exact .cons (Rp.keep k h'.1 r) (RpAll.keep k h'.2 t)
end
end
def eNoL (F : Env → Option D) : Env → Option D := fun ρ => match F ρ with | some d => if noL d = true then some d else none | none => none
def eNoLl (F : Env → Option D) : Env → Option D := fun ρ => match F ρ with | some (.lst xs) => if noLs xs = true then some (.lst xs) else none | _ => none
/-- what was fixed for a while is our own again -/
theorem Gr.back {Hf Hf1 H Hf2 H2 : Hp} (s1 : Same Hf Hf1) (n1 : NewL Hf Hf1) (g2 : Gr Hf1 H Hf2 H2) : ∃ Hg, Gr Hf H Hg H2 ∧ (∀ a o, Hf2 a = some o → (∀ vs, o ≠ .lst vs) → Hg a = some o) ∧ (∀ a, Hf2 a = none → Hg a = none) := by
  have own : ∀ a, (∃ o, H a = some o) ∧ Hf a = none → ∀ o, Hf2 a = some o → ∃ vs, o = .lst vs := fun a ⟨⟨u, hu⟩, hn⟩ o ho => by
    cases e : Hf1 a with
    | none => rw [g2.n a u hu e] at ho; cases ho
    | some w =>
      have := g2.f _ _ e
      rw [ho] at this
      cases this
      exact n1 a o e hn
  let Hg : Hp := fun a => match H a, Hf a with | some _, none => none | _, _ => Hf2 a
  have eg : ∀ a, (∃ o, H a = some o) ∧ Hf a = none → Hg a = none := fun a ⟨⟨u, hu⟩, hn⟩ => by show (match H a, Hf a with | some _, none => none | _, _ => Hf2 a) = none; rw [hu, hn]
  have en : ∀ a, ¬((∃ o, H a = some o) ∧ Hf a = none) → Hg a = Hf2 a := fun a hc => by
    show (match H a, Hf a with | some _, none => none | _, _ => Hf2 a) = Hf2 a
    split
    · rename_i o _ h1 h2
      exact absurd ⟨⟨_, h1⟩, h2⟩ hc
    · rfl
  have sub : ∀ a o, Hg a = some o → Hf2 a = some o := fun a o z => by
    by_cases hc : (∃ o, H a = some o) ∧ Hf a = none
    · rw [eg a hc] at z; cases z
    · rwa [en a hc] at z
  refine ⟨Hg, ⟨fun a o z => ?_, g2.h, fun a o z => g2.s _ _ (sub a o z), fun a o h1 h2 => eg a ⟨⟨o, h1⟩, h2⟩⟩, fun a o z hn => ?_, fun a z => ?_⟩
  · rw [en a (fun hc => by rw [z] at hc; cases hc.2)]
    exact g2.f _ _ (s1 _ _ z)
  · by_cases hc : (∃ o, H a = some o) ∧ Hf a = none
    · obtain ⟨vs, e⟩ := own a hc o z
      exact absurd e (hn vs)
    · rw [en a hc]; exact z
  · by_cases hc : (∃ o, H a = some o) ∧ Hf a = none
    · exact eg a hc
    · rw [en a hc]; exact z
section
variable {X : Cx} {L O : List Nat} {e : Expr} {F : Env → Option D}
theorem fe_noL (h : FE X L e F) (hL : L.all (O.contains ·) = true) : FE X O e (eNoL F) := by
  intro φ Hf0 H0 ρ σ Hf H d Q S hF k
  unfold eNoL at hF
  split at hF
  · rename_i d' h1
    split at hF
    · rename_i hs
      cases hF
      obtain ⟨Hf1, s1, n1, S1⟩ := S.weakL L hL
      refine h φ Hf0 H0 ρ σ Hf1 H d _ S1 h1 fun v Hf2 H2 g2 r2 => ?_
      obtain ⟨Hg, g, kp, _⟩ := Gr.back s1 n1 g2
      exact k v Hg H2 g (r2.keep kp hs)
    · cases hF
  · cases hF
theorem fn_noL (h : FN X L e F) (hL : L.all (O.contains ·) = true) : FN X O e (eNoLl F) := by
  intro φ Hf0 H0 ρ σ Hf H d Q S hF k
  unfold eNoLl at hF
  split at hF
  · rename_i xs h1
    split at hF
    · rename_i hs
      cases hF
      obtain ⟨Hf1, s1, n1, S1⟩ := S.weakL L hL
      refine h φ Hf0 H0 ρ σ Hf1 H _ _ S1 h1 fun a ys vs Hf2 H2 e g2 q1 q2 q3 r2 => ?_
      cases e
      obtain ⟨Hg, g, kp, kn⟩ := Gr.back s1 n1 g2
      exact k a _ vs Hg H2 rfl g q1 (kn a q2) q3 (r2.keep kp hs)
    · cases hF
  · cases hF
end
/-! xs.clear() -/
def clearF : List D → List D → Option (List D) := fun _ ds => match ds with | [] => some [] | _ => none
theorem r_clear {K : PySem.W.Frag} : ∀ (φ : Nat → Option Addr) (Hf H : Hp) (a : Addr) (xs ys : List D) (vs : List V) (Q : VK), H a = some (.lst vs) → RpAll K φ Hf xs vs → clearF xs [] = some ys → (∀ z ws, RpAll K φ Hf ys ws → Q z (upd H a (.lst ws))) → rClear (.ref a) [] H Q :=
  fun φ Hf H a xs ys vs Q h r e k => by
    cases e
    exact ⟨a, vs, rfl, rfl, h, k _ _ .nil⟩
end FL
namespace FL
open PySem PySem.Spec L2

/-! ### x in t, t a tuple of data of any depth -/
def rInT (K : PySem.W.Frag) (neg : Bool) : R2 := fun x y H Q => ∃ d ds, Dp K H x d ∧ Dp K H y (.tuple ds) ∧ SeqAt.shaped d = true ∧ SeqAt.shaped (.tuple ds) = true ∧ Q (.bl (neg != ds.any fun z => PyData.eqv z d)) H
theorem op_inT {X : Cx} (hu : X.A.units + 65 < cLine) : OpR X (compareOp .In) (rInT X.K false) := by
  intro pins s σ H x y v u Q I rx ry ⟨d, ds, h1, h2, h3, h4, q⟩
  obtain ⟨as, r1⟩ := Dp.reads I d x v h1 rx
  obtain ⟨bs, r2⟩ := Dp.reads I (.tuple ds) y u h2 ry
  have c := PyProof.Rows.room_in_shaped h3 hu (xs := ds)
  refine SeqAt.in_tuple_reads r2 r1 (SeqAt.canLay_of_shaped h4) (SeqAt.canLay_of_shaped h3) c ⟨.bl _, H, I, rfl, ?_⟩
  simpa using q
theorem op_ninT {X : Cx} (hu : X.A.units + 65 < cLine) : OpR X (compareOp .NotIn) (rInT X.K true) := by
  intro pins s σ H x y v u Q I rx ry ⟨d, ds, h1, h2, h3, h4, q⟩
  obtain ⟨as, r1⟩ := Dp.reads I d x v h1 rx
  obtain ⟨bs, r2⟩ := Dp.reads I (.tuple ds) y u h2 ry
  have c := PyProof.Rows.room_in_shaped h3 hu (xs := ds)
  refine SeqAt.notIn_tuple_reads r2 r1 (SeqAt.canLay_of_shaped h4) (SeqAt.canLay_of_shaped h3) c ⟨.bl _, H, I, rfl, ?_⟩
  simpa using q
def inTD (neg : Bool) (x y : D) : Option D := match y with
  | .tup xs => if (okD x && okD (.tup xs)) = true then some (.bl (neg != xs.any fun z => deq z x)) else none
  | _ => none
theorem o_inT {K : PySem.W.Frag} {neg : Bool} : Op2 K (rInT K neg) (inTD neg) := fun φ Hf H x y d v u Q s r1 r2 e k => by
  unfold inTD at e
  split at e
  · rename_i xs
    split at e
    · rename_i hc
      cases e
      have h := Bool.and_eq_true_iff.mp hc
      refine ⟨toPy x, toPyAll xs, (r1.all s).dp' h.1, (r2.all s).dp' h.2, h.1, h.2, ?_⟩
      rw [any_py]
      exact k _ Hf H (.refl s) (.bl _)
    · cases e
  · cases e
end FL
namespace FL
open PySem PySem.Spec L2

/-! ### bits -/
def orD : D → D → Option D | .int i, .int j => some (.int (Builtin.bitOr i j)) | _, _ => none
def andD : D → D → Option D | .int i, .int j => some (.int (Builtin.bitAnd i j)) | _, _ => none
def shlD : D → D → Option D | .int i, .int j => if 0 ≤ j ∧ j ≤ 1000000 ∧ i.natAbs < 2 ^ 64 then some (.int (i * 2 ^ j.toNat)) else none | _, _ => none
def shrD : D → D → Option D | .int i, .int j => if 0 ≤ j then some (.int (i / 2 ^ j.toNat)) else none | _, _ => none
def invD : D → Option D | .int i => some (.int (Builtin.bitNot i)) | _ => none
theorem o_or {K : PySem.W.Frag} : Op2 K (rI0 fun i j => .int (Builtin.bitOr i j)) orD := fun φ Hf H x y d v u Q s r1 r2 e k => by
  unfold orD at e; split at e
  · cases e; exact ⟨_, _, r1.int, r2.int, k _ Hf H (.refl s) (.int _)⟩
  · cases e
theorem o_and {K : PySem.W.Frag} : Op2 K (rI0 fun i j => .int (Builtin.bitAnd i j)) andD := fun φ Hf H x y d v u Q s r1 r2 e k => by
  unfold andD at e; split at e
  · cases e; exact ⟨_, _, r1.int, r2.int, k _ Hf H (.refl s) (.int _)⟩
  · cases e
theorem o_shl {K : PySem.W.Frag} : Op2 K (rI CPow fun i j => .int (i * 2 ^ j.toNat)) shlD := fun φ Hf H x y d v u Q s r1 r2 e k => by
  unfold shlD at e; split at e
  · split at e
    · rename_i c; cases e; exact ⟨_, _, r1.int, r2.int, c, k _ Hf H (.refl s) (.int _)⟩
    · cases e
  · cases e
theorem o_shr {K : PySem.W.Frag} : Op2 K (rI (fun _ j => 0 ≤ j) fun i j => .int (i / 2 ^ j.toNat)) shrD := fun φ Hf H x y d v u Q s r1 r2 e k => by
  unfold shrD at e; split at e
  · split at e
    · rename_i c; cases e; exact ⟨_, _, r1.int, r2.int, c, k _ Hf H (.refl s) (.int _)⟩
    · cases e
  · cases e
section
variable {X : Cx} {O : List Nat} {a b e e' : Expr} {p pos : Pos} {F G : Env → Option D} {c : Str} {j k : Nat} {mir : List D → Option D}
theorem fe_inv (h : FE X O a F) : FE X O (.UnaryOp .Invert a pos) (e1 invD F) := by
  intro φ Hf0 H0 ρ σ Hf H d Q S hF k
  obtain ⟨x, h1, h2⟩ := e1_some hF
  refine toE (pe_un un_inv peW) (h φ Hf0 H0 ρ σ Hf H x _ S h1 fun v Hf1 H1 g1 r1 => ?_)
  unfold invD at h2
  split at h2
  · cases h2
    cases r1
    exact ⟨_, rfl, k _ Hf1 H1 g1 (.int _)⟩
  · cases h2
/-! for x, y in zip(xs, ys) -/
def zipT (xs ys : List D) : List D := (xs.zip ys).map fun q => .tup [q.1, q.2]
def iZp (F G : Env → Option D) : Env → Option (List D) := fun ρ => match F ρ, G ρ with
  | some x, some y => if (isLst x && isLst y) = true then (match seqD x, seqD y with | some xs, some ys => some (zipT xs ys) | _, _ => none) else none
  | _, _ => none
theorem zipT_get : ∀ (xs ys : List D) (i : Nat) (d : D), (zipT xs ys)[i]? = some d → ∃ x y, xs[i]? = some x ∧ ys[i]? = some y ∧ d = .tup [x, y]
  | [], _, _, _, h => by simp [zipT] at h
  | _ :: _, [], _, _, h => by simp [zipT] at h
  | x :: xs, y :: ys, 0, d, h => ⟨x, y, rfl, rfl, by simpa [zipT] using h.symm⟩
  | x :: xs, y :: ys, i + 1, d, h => by
    obtain ⟨u, v, h1, h2, h3⟩ := zipT_get xs ys i d (by simpa [zipT] using h)
    exact ⟨u, v, by simpa using h1, by simpa using h2, h3⟩
theorem fi_zip {elts : List Expr} {kk : Nat} {tpos : Pos} (hg : Gl X "zip") (hm : X.mg "zip" = none) (h : FE X O e F) (h' : FE X O e' G)
    (hs : starEach [e, e'] X.env = (false, eval e X.env) :: starEach [e'] X.env := by rfl) (hs2 : starEach [e'] X.env = (false, eval e' X.env) :: starEach [] X.env := by rfl) (hpl : (backTo pos (starEach [e'] X.env)).any (·.1) = false := by rfl) :
    FI X O (.Tuple elts kk tpos) (.Call (.Name "zip" p) [e, e'] [] pos) (iZp F G) := by
  intro φ Hf0 H0 ρ σ Hf H ds R S hF q
  unfold iZp at hF
  split at hF
  · rename_i x y hx hy
    split at hF
    · rename_i hl
      have hl := Bool.and_eq_true_iff.mp hl
      split at hF
      · rename_i xs ys hxs hys
        cases hF
        refine toI (pi_zip hg hm (pa_cons peW (pa_cons peW pa_nil hs2) hs) hs hpl) ?_
        refine h φ Hf0 H0 ρ σ Hf H x _ S hx fun v Hf1 H1 g1 r1 => ?_
        refine h' φ Hf0 H0 ρ σ Hf1 H1 y _ (S.gr g1) hy fun u Hf2 H2 g2 r2 => ?_
        obtain ⟨a, vs, e1, q1, w1⟩ := (r1.mono g2.f).lst_f hl.1 hxs
        obtain ⟨b, us, e2, q2, w2⟩ := r2.lst_f hl.2 hys
        refine ⟨a, b, vs, us, by rw [e1, e2], g2.s.seq q1, g2.s.seq q2, q _ Hf2 H2 (g1.trans g2) fun i Hf3 H3 s1 s2 => ?_⟩
        have p1 := (s1.trans s2).seq q1
        have p2 := (s1.trans s2).seq q2
        refine ⟨fun hi => ⟨vs, us, p1, p2, ?_⟩, fun d hd => ?_⟩
        · rw [← w1.length, ← w2.length]
          have : (zipT xs ys).length = min xs.length ys.length := by simp [zipT]
          omega
        · obtain ⟨m, n, h1, h2, rfl⟩ := zipT_get xs ys i d hd
          obtain ⟨v1, k1, t1⟩ := w1.get h1
          obtain ⟨v2, k2, t2⟩ := w2.get h2
          refine ⟨⟨vs, us, v1, v2, p1, p2, k1, k2⟩, fun z H4 ⟨T, z1, z2, e3, e4, e5, e6, e7⟩ => ?_⟩
          have l1 := e6 vs p1
          rw [k1] at l1; cases l1
          have l2 := e7 us p2
          rw [k2] at l2; cases l2
          subst e3
          subst e5
          have g3 : Gr Hf3 H3 (upd Hf3 T (.tup [v1, v2])) (upd H3 T (.tup [v1, v2])) := .new s2 e4
          exact ⟨_, g3, .tup (.inl (.inl upd_same)) (.cons (t1.mono (s1.trans g3.f)) (.one (t2.mono (s1.trans g3.f))))⟩
      · cases hF
    · cases hF
  · cases hF
/-! x <= y of a class of our own -/
theorem op_meC {op : CmpOp} {m0 : Str} (hop : ∀ a b, compareOp op a b = richCompare op a b) (cm : CalM X.prog X.w X.K X.mg X.base j c m0 false 2 mir []) (hr : Room k X.A) (hk : j ≤ k) (he : (cmpInfo op).2.1 = m0 := by kernel_rfl) : OpR X (compareOp op) (rMe X.K c mir) := by
  subst he
  obtain ⟨f, fd, ps, Fn, hc, hm, hb⟩ := calM_nil cm
  intro pins s σ H x y v u Q I rx ry h
  obtain ⟨a, dx, gs, b, dy, hs, rfl, rfl, h1, h2, q⟩ := h
  cases rx
  cases ry
  obtain ⟨ox, od, J⟩ := insAt I h1
  obtain ⟨ox', od', J'⟩ := insAt I h2
  obtain ⟨m, hF⟩ := I.fr
  rw [hop]
  refine PySem.W.cmp_K (op := op) (tb := .ref (He.ga X.K c)) hr.units0 hF I.ok.mod.kin J J'.type (by unfold PySem.W.notFirst; simp) hm.at_ hm.fn ?_
  refine wpAny_mono (me_run (m := c) (vs := [.ref a, .ref b]) (us := [.ref a, .ref b]) Fn hb (hr.mono hk) I.env0 I (.cons rfl (.cons rfl .nil)) q) (fun w s' z => ?_) fun _ _ z => z
  obtain ⟨z', H', I', rz, qz⟩ := z
  exact SlX.cmpback rz ⟨z', H', I', rz, qz⟩
end
end FL
namespace FL
open PySem PySem.Spec L2

/-! ### calls that leave the last arguments to the defaults -/
structure CalKd (P : Program) (w : World) (K : PySem.W.Frag) (mg : Str → Option Value) (base : Heap) (k : Nat) (x : Str) (fr : Bool) (n : Nat) (m : List D → Option D) (df : List D) : Prop where
  ok : ∃ (f : Addr) (fd : FuncData) (ps : List Str) (ds : List Value) (dvs : List V), FnOk P w K mg base CX0 k f fd ps (spF K fr n m) ∧ mg x = some (.ref f) ∧ PySem.W.keepIn K (.ref f) = true ∧ Binds K fd ps ds ∧ Vals dvs ds ∧ ∀ φ H, RpAll K φ H df dvs
section
variable {P : Program} {w : World} {K : PySem.W.Frag} {mg : Str → Option Value} {base : Heap} {k : Nat} {a : Addr} {ps N : List Str} {x : Str} {st : Stmt} {G : Env → Option Out} {dvs : List V} {kws : List (Str × V)} {df : List D}
theorem calK2_by {N' n : Nat} (n0 j : Nat) (Dd : FnAt K x x st dvs kws a) (hne : dvs ≠ []) (g : mg x = some (.ref a)) (S : FnScope N ps (defScope st)) (hN : N' = N.length) (hn : n = ps.length)
    (hbind : ∀ (T : Addr) (kV doc pm : Value) (an : Option Addr) (cdv ct : Value) (us its : List Value), us.length = ps.length → its.length = dvs.length →
      ∃ k, bindArgs (PySem.W.fnOf x x (defArgs st) (defBody st) (defScope st) (.ref T) kV doc pm an cdv ct) ⟨us, []⟩ = seqItems? (.ref T) >>= k ∧ k (some its.toArray) = pure (ps.zip (us ++ its.drop dvs.length)))
    (hn0 : n0 + (dvs.length - j) = ps.length)
    (hbind2 : ∀ (T : Addr) (kV doc pm : Value) (an : Option Addr) (cdv ct : Value) (us its : List Value), us.length = n0 → its.length = dvs.length →
      ∃ k, bindArgs (PySem.W.fnOf x x (defArgs st) (defBody st) (defScope st) (.ref T) kV doc pm an cdv ct) ⟨us, []⟩ = seqItems? (.ref T) >>= k ∧ k (some its.toArray) = pure (ps.zip (us ++ its.drop j)))
    (hdf : ∀ φ H, RpAll K φ H df (dvs.drop j))
    {fr : Bool} (O' : List Nat)
    (hb : ∀ (cdv : Value) (A : Around) (outer : List PySem.Env) (s : Shared) (H : Hp) (E : XK), Room k (A.deeper (PyProof.Rows.envOfC x (defScope st) s.heap.objs.size a cdv)) →
      FSs (cxOf CX0 P w K mg base N x (defScope st) a cdv A outer s H E).nox fr [] [] O' (defBody st) G) : CalK P w K mg base (k + 1) x fr n (runD fr N' n G) ∧ CalKd P w K mg base (k + 1) x fr n (runD fr N' n G) df := by
  obtain ⟨fd, F⟩ := Dd
  have fo := fnOk_by F S hN hn O' hb
  obtain ⟨ds, r, b⟩ := FunD.binds1 (ps := ps) F ps.length dvs.length hne (by rw [Nat.sub_self]; rfl) hbind
  rw [List.drop_length] at r
  cases r
  obtain ⟨ds2, r2, b2⟩ := FunD.binds1 (ps := ps) F n0 j hne hn0 hbind2
  exact ⟨⟨a, fd, ps, fo, g, F.kp, b⟩, ⟨a, fd, ps, ds2, _, fo, g, F.kp, b2, r2, hdf⟩⟩
end
section
variable {X : Cx} {O : List Nat} {e : Expr} {es : List Expr} {p pos : Pos} {Fs : Env → Option (List D)} {x : Str} {j k n : Nat} {m : List D → Option D} {df : List D}
def mLd (n : Nat) (m : List D → Option D) (df : List D) : List D → Option D := fun ds => mL n m (ds ++ df)
theorem fe_callD (c : CalKd X.prog X.w X.K X.mg X.base j x false n m df) (hr : Room k X.A) (hk : j ≤ k) (hg : Gl X x) (ha : FA X O (e :: es) Fs) (hdb : (x == ("__debug__" : Str)) = false := by decide +kernel) (he : starEach (e :: es) X.env = (false, eval e X.env) :: starEach es X.env := by rfl)
    (hpl : (backTo pos (starEach es X.env)).any (·.1) = false := by rfl) : FE X O (.Call (.Name x p) (e :: es) [] pos) (eL (mLd n m df) Fs) := by
  obtain ⟨f, fd, ps, us, dvs, F, hm, hkp, hb, hd, hdf⟩ := c.ok
  intro φ Hf0 H0 ρ σ Hf H d Q S hF k'
  obtain ⟨ds, h1, h2⟩ := eL_some hF
  unfold mLd mL at h2
  split at h2
  · rename_i hl
    refine toE (pe_call F (hr.mono hk) hg hm hkp hb hd pass0 paW hdb he hpl) ?_
    refine ha φ Hf0 H0 ρ σ Hf H ds _ S h1 fun vs Hf1 H1 g1 r1 => ?_
    exact ⟨φ, Hf1, ds ++ df, d, g1.s, r1.append (hdf φ Hf1), hl, h2, fun v Hf2 H2 g2 r2 => k' v Hf2 H2 (g1.trans g2) r2⟩
  · cases h2
end
end FL
namespace FL
open PySem PySem.Spec PyProof.Rows L2

/-! ### x.bit_length() -/
def blenD : D → Option D | .int i => some (.int (Builtin.Int.intBits i : Nat)) | _ => none
section
variable {X : Cx} {O : List Nat} {o e : Expr} {es : List Expr} {kws : List Keyword} {p pos apos : Pos} {F : Env → Option D} {Fs Gs : Env → Option (List D)} {x : Str} {j k n : Nat} {m : List D → Option D}
theorem fe_blen (h : FE X O o F) (hbase : attributeBase o "bit_length" X.env (eval o X.env) = eval o X.env := by rfl) (hline : (apos.endLine == pos.line) = true := by rfl) : FE X O (.Call (.Attribute o "bit_length" apos) [] [] pos) (e1 blenD F) := by
  intro φ Hf0 H0 ρ σ Hf H d Q S hF k
  obtain ⟨y, h1, h2⟩ := e1_some hF
  unfold blenD at h2
  split at h2
  · rename_i i
    cases h2
    refine toE (pe_bits peW hbase hline) ?_
    refine h φ Hf0 H0 ρ σ Hf H _ _ S h1 fun v Hf1 H1 g1 r1 => ?_
    cases r1
    exact ⟨i, rfl, k _ Hf1 H1 g1 (.int _)⟩
  · cases h2
/-! ### calls with keywords -/
/-- n0 parameters by place, the others by their names -/
structure CalKk (P : Program) (w : World) (K : PySem.W.Frag) (mg : Str → Option Value) (base : Heap) (k : Nat) (x : Str) (fr : Bool) (n : Nat) (m : List D → Option D) (n0 : Nat) (ks : List Str) : Prop where
  ok : ∃ (f : Addr) (fd : FuncData) (ps : List Str) (g : List Value → List Value → List Value), FnOk P w K mg base CX0 k f fd ps (spF K fr n m) ∧ mg x = some (.ref f) ∧ PySem.W.keepIn K (.ref f) = true ∧ KBn K fd ps n0 ks g (fun vs zs => vs ++ zs)
end
section
variable {P : Program} {w : World} {K : PySem.W.Frag} {mg : Str → Option Value} {base : Heap} {k : Nat} {a : Addr} {ps N : List Str} {x : Str} {st : Stmt} {G : Env → Option Out} {kws : List (Str × V)}
theorem calK_kw {N' n n0 : Nat} {ks : List Str} {df : List D} (Dd : FnAt K x x st [] kws a) (g : mg x = some (.ref a)) (S : FnScope N ps (defScope st)) (hN : N' = N.length) (hn : n = ps.length) (hne : kws ≠ []) (hn0 : n0 + kws.length = ps.length) (hks : ks.length = kws.length)
    (hdf : ∀ φ H, RpAll K φ H df (kws.map (·.2)))
    (h0 : ∀ (D : Addr) (doc pm : Value) (an : Option Addr) (cdv ct : Value) (us ws : List Value), us.length = n0 → ws.length = kws.length → KwChain D ((kws.map (·.1)).zip ws) (bindArgs (PySem.W.fnOf x x (defArgs st) (defBody st) (defScope st) .none (.ref D) doc pm an cdv ct) ⟨us, []⟩) (ps.zip (us ++ ws)))
    (h1 : ∀ (kV doc pm : Value) (an : Option Addr) (cdv ct : Value) (us ws : List Value), us.length = n0 → ws.length = ks.length → bindArgs (PySem.W.fnOf x x (defArgs st) (defBody st) (defScope st) .none kV doc pm an cdv ct) ⟨us, ks.zip ws⟩ = pure (ps.zip (us ++ ws)))
    {fr : Bool} (O' : List Nat)
    (hb : ∀ (cdv : Value) (A : Around) (outer : List PySem.Env) (s : Shared) (H : Hp) (E : XK), Room k (A.deeper (PyProof.Rows.envOfC x (defScope st) s.heap.objs.size a cdv)) →
      FSs (cxOf CX0 P w K mg base N x (defScope st) a cdv A outer s H E).nox fr [] [] O' (defBody st) G) : CalKd P w K mg base (k + 1) x fr n (runD fr N' n G) df ∧ CalKk P w K mg base (k + 1) x fr n (runD fr N' n G) n0 ks := by
  obtain ⟨fd, F⟩ := Dd
  have fo := fnOk_by F S hN hn O' hb
  obtain ⟨ds, r, b⟩ := FunD.binds0 F n0 hne hn0 h0
  exact ⟨⟨a, fd, ps, ds, kws.map (·.2), fo, g, F.kp, b, r, hdf⟩, ⟨a, fd, ps, fun us ws => us ++ ws, fo, g, F.kp, ⟨fun s us ws _ l1 l2 => kbindsAll F n0 (by rw [hks]; exact hn0) h1 us ws l1 l2 s, fun r1 r2 => r1.append r2⟩⟩⟩
end
section
variable {X : Cx} {O : List Nat} {o e : Expr} {es : List Expr} {kws : List Keyword} {p pos apos : Pos} {F : Env → Option D} {Fs Gs : Env → Option (List D)} {x : Str} {j k n n0 nk : Nat} {m : List D → Option D} {ks : List Str} {df : List D}
theorem fe_callKw (c : CalKk X.prog X.w X.K X.mg X.base j x false n m n0 ks) (hnk : nk = ks.length) (hr : Room k X.A) (hk : j ≤ k) (hg : Gl X x) (ha : FA X O (e :: es) Fs) (hkw : FK X O kws Gs)
    (hall : (backToKw pos (keywordEach kws X.env)).all (·.1.isSome) = true := by rfl) (hks : (backToKw pos (keywordEach kws X.env)).filterMap (·.1) = ks := by rfl)
    (hdb : (x == ("__debug__" : Str)) = false := by decide) (he : starEach (e :: es) X.env = (false, eval e X.env) :: starEach es X.env := by rfl)
    (hpl : ((backTo pos (starEach (e :: es) X.env)).any (·.1) || (backToKw pos (keywordEach kws X.env)).any (·.1.isNone)) = false := by rfl) :
    FE X O (.Call (.Name x p) (e :: es) kws pos) (eL (mL n m) (aApp n0 nk Fs Gs)) := by
  subst hnk
  obtain ⟨f, fd, ps, g, F, hm, hkp, hb⟩ := c.ok
  intro φ Hf0 H0 ρ σ Hf H d Q S hF q
  obtain ⟨ds, h1, h2⟩ := eL_some hF
  obtain ⟨as, bs, h6, h7, rfl, l1, l2⟩ := aApp_some h1
  unfold mL at h2
  split at h2
  · rename_i hl
    refine toE (pe_callN F (hr.mono hk) hg hm hkp hb pass0 paW pkW hall hks hdb he hpl) ?_
    refine ha φ Hf0 H0 ρ σ Hf H as _ S h6 fun vs Hf1 H1 g1 r1 => ?_
    refine hkw φ Hf0 H0 ρ σ Hf1 H1 bs _ (S.gr g1) h7 fun zs Hf2 H2 g2 r2 => ?_
    refine ⟨r1.length.symm.trans l1, r2.length.symm.trans l2, φ, Hf2, _, d, g2.s, (r1.mono g2.f).append r2, hl, h2, fun v Hf3 H3 g3 r3 => q v Hf3 H3 ((g1.trans g2).trans g3) r3⟩
  · cases h2
end

/-! ### for x, y, z in zip(xs, ys, zs) -/
/-- the lists at a, b, c, of these lengths, as they stand at each turn, the items in new triples -/
def Itz3 (K : PySem.W.Frag) (a b c : Addr) (n1 n2 n3 : Nat) : It :=
  ⟨fun i H => ∃ (xs ys zs : List V) (x y z : V), SqL K H a xs ∧ SqL K H b ys ∧ SqL K H c zs ∧ xs[i]? = some x ∧ ys[i]? = some y ∧ zs[i]? = some z ∧ xs.length = n1 ∧ ys.length = n2 ∧ zs.length = n3,
    fun i H v H' => ∃ T x y z, v = .ref T ∧ H T = none ∧ H' = upd H T (.tup [x, y, z]) ∧ (∀ xs, SqL K H a xs → xs[i]? = some x) ∧ (∀ ys, SqL K H b ys → ys[i]? = some y) ∧ ∀ zs, SqL K H c zs → zs[i]? = some z,
    fun i H => ∃ xs ys zs : List V, SqL K H a xs ∧ SqL K H b ys ∧ SqL K H c zs ∧ xs.length = n1 ∧ ys.length = n2 ∧ zs.length = n3 ∧ (n1 ≤ i ∨ n2 ≤ i ∨ n3 ≤ i)⟩
theorem turn_zip3 {P : Program} {w : World} {K : PySem.W.Frag} {elts : List Expr} {kk : Nat} {tpos : Pos} {a b c z TI TO i1 i2 i3 : Addr} {n1 n2 n3 : Nat} (D : ZipSep3 z TI TO i1 i2 i3 [i1, a] [i2, b] [i3, c]) (na : a ≠ i1) (nb : b ≠ i2) (nc : c ≠ i3) :
    Turn P w K (.Tuple elts kk tpos) (Itz3 K a b c n1 n2 n3) [z, TI, TO, i1, i2, i3] z (fun i h => IsZip h z TI TO .none ∧ IsTupOf3 h TI (.ref i1) (.ref i2) (.ref i3) ∧ (∃ x y u, IsTupOf3 h TO x y u) ∧ h.IsListIter i1 a i ∧ h.IsListIter i2 b i ∧ h.IsListIter i3 c i ∧ i ≤ n1 ∧ i ≤ n2 ∧ i ≤ n3) where
  mem := by simp
  obj := fun i h st q hq => by
    obtain ⟨hz, hTI, ⟨x, y, u, hTO⟩, ⟨o1, e1, _, d1⟩, ⟨o2, e2, _, d2⟩, ⟨o3, e3, _, d3⟩, _⟩ := st
    have e' : q = z ∨ q = TI ∨ q = TO ∨ q = i1 ∨ q = i2 ∨ q = i3 := by simpa using hq
    rcases e' with q | q | q | q | q | q
    · rw [q]; exact ⟨_, hz, fun v q => nomatch q⟩
    · rw [q]; exact ⟨_, hTI, fun v q => nomatch q⟩
    · rw [q]; exact ⟨_, hTO, fun v q => nomatch q⟩
    · rw [q]; exact ⟨o1, e1, fun v q => by rw [d1] at q; cases q⟩
    · rw [q]; exact ⟨o2, e2, fun v q => by rw [d2] at q; cases q⟩
    · rw [q]; exact ⟨o3, e3, fun v q => by rw [d3] at q; cases q⟩
  keep := fun i h h' st k => by
    obtain ⟨hz, hTI, ⟨x, y, u, hTO⟩, h1, h2, h3, q⟩ := st
    exact ⟨k z (by simp) _ hz, k TI (by simp) _ hTI, ⟨x, y, u, k TO (by simp) _ hTO⟩, h1.at fun o q => k i1 (by simp) o q, h2.at fun o q => k i2 (by simp) o q, h3.at fun o q => k i3 (by simp) o q, q⟩
  item := by
    intro X hP hw hK hc i pins s σ H E I hf st hg
    subst hP hw hK
    obtain ⟨hz, hTI, ⟨x0, y0, u0, hTO⟩, h1, h2, h3, _⟩ := st
    obtain ⟨xs, ys, zs, x, y, v, hqx, hqy, hqz, hx, hy, hv, rfl, rfl, rfl⟩ := hg
    obtain ⟨its, rv, p, _⟩ := I.list hqx
    obtain ⟨its2, rv2, p2, _⟩ := I.list hqy
    obtain ⟨its3, rv3, p3, _⟩ := I.list hqz
    obtain ⟨u, hu, ru⟩ := rv.get hx
    obtain ⟨u2, hu2, ru2⟩ := rv2.get hy
    obtain ⟨u3, hu3, ru3⟩ := rv3.get hv
    have hzl : z < s.heap.objs.size := Heap.lt_size hz
    have hd := I.ok.hd hc
    have lx : i < xs.length := (List.getElem?_eq_some_iff.mp hx).1
    have ly : i < ys.length := (List.getElem?_eq_some_iff.mp hy).1
    have lz : i < zs.length := (List.getElem?_eq_some_iff.mp hv).1
    refine wpAny_pyNext_zipD3_item D (Draws.list (A := X.A.in1) hd i1 a na its.toArray) (Draws.list (A := X.A.in1) hd i2 b nb its2.toArray) (Draws.list (A := X.A.in1) hd i3 c nc its3.toArray) hz hTI hTO ⟨h1, p.isList⟩ ⟨h2, p2.isList⟩ ⟨h3, p3.isList⟩
      (by have := rv.length; simp; omega) (by have := rv2.length; simp; omega) (by have := rv3.length; simp; omega) fun v1 v2 v3 h' tk y1 y2 y3 z' TO' h1' h2' h3' hT hsz hk => ?_
    obtain rfl : v1 = u := by simpa [hu] using y1.symm
    obtain rfl : v2 = u2 := by simpa [hu2] using y2.symm
    obtain rfl : v3 = u3 := by simpa [hu3] using y3.symm
    refine ⟨_, rfl, wpAny_letOwnedTupleGo_zip (s := { s with heap := h', toks := tk }) z' fun h'' z'' sb => ?_⟩
    have hT2 : h''.get? s.heap.objs.size = some { cls := .type "tuple", data := .seq #[v1, v2, v3] } := (sb.2 _ (Nat.ne_of_gt hzl)).trans hT
    have new : ObjOk X.prog X.w (upd H s.heap.objs.size (.tup [x, y, v])) h'' s.heap.objs.size (.tup [x, y, v]) :=
      ⟨by show 3 ≤ sizeLine; decide, [v1, v2, v3], .cons ru (.cons ru2 (.cons ru3 .nil)), ⟨_, hT2, rfl, _, rfl⟩⟩
    have I1 : Inv X pins σ (upd H s.heap.objs.size (.tup [x, y, v])) { s with heap := h'', toks := tk } :=
      I.turnedNew (t' := tk) (ch := [z, TI, TO, i1, i2, i3]) (fun c o hb q => (sb.2 c (fun q' => hb (by simp [q']))).trans (hk c o (fun q' => hb (by simp [q'])) (fun q' => hb (by simp [q'])) (fun q' => hb (by simp [q'])) (fun q' => hb (by simp [q'])) (fun q' => hb (by simp [q'])) q)) hf (Nat.le_refl _) new
    refine ⟨.ref s.heap.objs.size, _, I1, rfl, ⟨_, x, y, v, rfl, I.hok.fresh (Nat.le_refl _), rfl, fun l hl => by rw [I.list_inj hl hqx]; exact hx, fun l hl => by rw [I.list_inj hl hqy]; exact hy, fun l hl => by rw [I.list_inj hl hqz]; exact hv⟩, ⟨z'', ?_, ⟨v1, v2, v3, ?_⟩, ?_, ?_, ?_, lx, ly, lz⟩, fun q hqm => ?_⟩
    · exact (sb.2 _ D.TIz).trans (hk _ _ D.TIz D.TITO D.TIi1 D.TIi2 D.TIi3 hTI)
    · exact (sb.2 _ D.TOz).trans TO'
    · exact h1'.1.at fun o q => (sb.2 _ (fun e => D.zi1 e.symm)).trans q
    · exact h2'.1.at fun o q => (sb.2 _ (fun e => D.zi2 e.symm)).trans q
    · exact h3'.1.at fun o q => (sb.2 _ (fun e => D.zi3 e.symm)).trans q
    · have hlt : q < s.heap.objs.size := by
        have e' : q = z ∨ q = TI ∨ q = TO ∨ q = i1 ∨ q = i2 ∨ q = i3 := by simpa using hqm
        rcases e' with q | q | q | q | q | q
        · rw [q]; exact hzl
        · rw [q]; exact Heap.lt_size hTI
        · rw [q]; exact Heap.lt_size hTO
        · rw [q]; obtain ⟨_, e1, _⟩ := h1; exact Heap.lt_size e1
        · rw [q]; obtain ⟨_, e2, _⟩ := h2; exact Heap.lt_size e2
        · rw [q]; obtain ⟨_, e3, _⟩ := h3; exact Heap.lt_size e3
      rw [upd_ne (Nat.ne_of_lt hlt)]
      exact (hf q hqm).1
  done := by
    intro X hP hw hK hc i pins s σ H E I hf st hg
    subst hP hw hK
    obtain ⟨hz, hTI, ⟨x0, y0, u0, hTO⟩, h1, h2, h3, k1, k2, k3⟩ := st
    obtain ⟨xs, ys, zs, hqx, hqy, hqz, rfl, rfl, rfl, hend⟩ := hg
    obtain ⟨its, rv, p, _⟩ := I.list hqx
    obtain ⟨its2, rv2, p2, _⟩ := I.list hqy
    obtain ⟨its3, rv3, p3, _⟩ := I.list hqz
    have l1 := rv.length
    have l2 := rv2.length
    have l3 := rv3.length
    have hd := I.ok.hd hc
    exact wpAny_pyNext_zipD3_end D (Draws.list (A := X.A.in1) hd i1 a na its.toArray) (Draws.list (A := X.A.in1) hd i2 b nb its2.toArray) (Draws.list (A := X.A.in1) hd i3 c nc its3.toArray) hz hTI hTO ⟨h1, p.isList⟩ ⟨h2, p2.isList⟩ ⟨h3, p3.isList⟩
      (by simp; omega) (by simp; omega) (by simp; omega) (by simp; omega) fun h' tk hk => ⟨rfl, I.turnedL (t' := tk) (ch := [z, TI, TO, i1, i2, i3]) (fun c o hb q =>
      hk c o (fun q' => hb (by simp [q'])) (fun q' => hb (by simp [q'])) (fun q' => hb (by simp [q'])) (fun q' => hb (by simp [q'])) (fun q' => hb (by simp [q'])) q) hf⟩
  self := fun A i s Q E st h => wpAny_pyIter_zip st.1 h
theorem zip3_apart (I a b c : Nat) (h1 : a < I) (h2 : b < I) (h3 : c < I) : ZipSep3 (I + 5) (I + 3) (I + 4) I (I + 1) (I + 2) [I, a] [I + 1, b] [I + 2, c] := by
  have e : ∀ m n k : Nat, m < n → (n + k ≠ m ∧ m ≠ n + k) := fun m n k h => ⟨by omega, by omega⟩
  have f : ∀ m n : Nat, m ≠ n → (I + m ≠ I + n) := fun m n h => by omega
  have g : ∀ n : Nat, n ≠ 0 → (I + n ≠ I ∧ I ≠ I + n) := fun n h => ⟨by omega, by omega⟩
  refine ⟨f 3 5 (by decide), f 4 5 (by decide), f 3 4 (by decide), (g 3 (by decide)).1, .head _, ?_, ?_, f 3 1 (by decide), .head _, ?_, ?_, f 3 2 (by decide), .head _, ?_, ?_, ?_, ?_, ?_, ?_, ?_, ?_⟩
  · exact List.not_mem_cons_of_ne_of_not_mem (g 5 (by decide)).1 (List.not_mem_cons_of_ne_of_not_mem (e a I 5 h1).1 (List.not_mem_nil))
  · exact List.not_mem_cons_of_ne_of_not_mem (g 4 (by decide)).1 (List.not_mem_cons_of_ne_of_not_mem (e a I 4 h1).1 (List.not_mem_nil))
  · exact List.not_mem_cons_of_ne_of_not_mem (f 5 1 (by decide)) (List.not_mem_cons_of_ne_of_not_mem (e b I 5 h2).1 (List.not_mem_nil))
  · exact List.not_mem_cons_of_ne_of_not_mem (f 4 1 (by decide)) (List.not_mem_cons_of_ne_of_not_mem (e b I 4 h2).1 (List.not_mem_nil))
  · exact List.not_mem_cons_of_ne_of_not_mem (f 5 2 (by decide)) (List.not_mem_cons_of_ne_of_not_mem (e c I 5 h3).1 (List.not_mem_nil))
  · exact List.not_mem_cons_of_ne_of_not_mem (f 4 2 (by decide)) (List.not_mem_cons_of_ne_of_not_mem (e c I 4 h3).1 (List.not_mem_nil))
  · exact List.not_mem_cons_of_ne_of_not_mem (g 1 (by decide)).2 (List.not_mem_cons_of_ne_of_not_mem (e b I 0 h2).1 (List.not_mem_nil))
  · exact List.not_mem_cons_of_ne_of_not_mem (g 2 (by decide)).2 (List.not_mem_cons_of_ne_of_not_mem (e c I 0 h3).1 (List.not_mem_nil))
  · exact List.not_mem_cons_of_ne_of_not_mem (g 1 (by decide)).1 (List.not_mem_cons_of_ne_of_not_mem (e a I 1 h1).1 (List.not_mem_nil))
  · exact List.not_mem_cons_of_ne_of_not_mem (f 1 2 (by decide)) (List.not_mem_cons_of_ne_of_not_mem (e c I 1 h3).1 (List.not_mem_nil))
  · exact List.not_mem_cons_of_ne_of_not_mem (g 2 (by decide)).1 (List.not_mem_cons_of_ne_of_not_mem (e a I 2 h1).1 (List.not_mem_nil))
  · exact List.not_mem_cons_of_ne_of_not_mem (f 2 1 (by decide)) (List.not_mem_cons_of_ne_of_not_mem (e b I 2 h2).1 (List.not_mem_nil))
def iZip3 (K : PySem.W.Frag) (ta : TA) : TI := fun σ H R => ta σ H fun vs H1 => ∃ a b c xs ys zs, vs = [.ref a, .ref b, .ref c] ∧ SqL K H1 a xs ∧ SqL K H1 b ys ∧ SqL K H1 c zs ∧ R (Itz3 K a b c xs.length ys.length zs.length) H1
theorem pi_zip3 {X : Cx} {e e2 e3 : Expr} {ta : TA} {p pos tpos : Pos} {elts : List Expr} {kk : Nat} (hg : Gl X "zip") (hm : X.mg "zip" = none) (ha : PA X [e, e2, e3] ta)
    (hs : starEach [e, e2, e3] X.env = (false, eval e X.env) :: starEach [e2, e3] X.env := by rfl) (hpl : (backTo pos (starEach [e2, e3] X.env)).any (·.1) = false := by rfl) :
    PI X (.Tuple elts kk tpos) (.Call (.Name "zip" p) [e, e2, e3] [] pos) (iZip3 X.K ta) := by
  refine ⟨fun pins s σ H R I h => ?_⟩
  refine Call_ (ld_blt I hg hm PyProof.Rows.boot_zip (PyProof.Rows.callWith_type1 (thn (ha.run pos pins s σ H _ I h) fun us s1 ⟨vs, H1, I1, r1, q1⟩ => ?_) hs hpl))
  obtain ⟨a, b, c, xs, ys, zs, ex, hqx, hqy, hqz, q⟩ := q1
  subst ex
  cases r1 with
  | cons r rr =>
    cases rr with
    | cons r' rr =>
      cases rr with
      | cons r'' rr =>
        cases rr
        cases r
        cases r'
        cases r''
        obtain ⟨its, rv, p1, _⟩ := I1.list hqx
        obtain ⟨its2, rv2, p2, _⟩ := I1.list hqy
        obtain ⟨its3, rv3, p3, _⟩ := I1.list hqz
        have la : a < s1.heap.objs.size := p1.lt
        have lb : b < s1.heap.objs.size := p2.lt
        have lc : c < s1.heap.objs.size := p3.lt
        refine zip_begins3 (begins_list a its.toArray) (begins_list b its2.toArray) (begins_list c its3.toArray) p1.isList p2.isList p3.isList fun h' hz hTI hTO h1 h2 h3 hsz hk => wpAny_pyIter_zip hz ?_
        have I2 : Inv X pins σ H1 { s1 with heap := h' } := I1.kept (t' := s1.toks) hk
        refine ⟨s1.heap.objs.size + 5, [s1.heap.objs.size + 5, s1.heap.objs.size + 3, s1.heap.objs.size + 4, s1.heap.objs.size, s1.heap.objs.size + 1, s1.heap.objs.size + 2], _, _, H1, rfl, I2, turn_zip3 (zip3_apart s1.heap.objs.size a b c la lb lc) (Nat.ne_of_lt la) (Nat.ne_of_lt (Nat.lt_succ_of_lt lb)) (Nat.ne_of_lt (Nat.lt_succ_of_lt (Nat.lt_succ_of_lt lc))), ⟨hz, hTI, ⟨_, _, _, hTO⟩, ⟨_, h1, rfl, rfl⟩, ⟨_, h2, rfl, rfl⟩, ⟨_, h3, rfl, rfl⟩, Nat.zero_le _, Nat.zero_le _, Nat.zero_le _⟩, fun q hqm => ?_, q⟩
        have e' : q = s1.heap.objs.size + 5 ∨ q = s1.heap.objs.size + 3 ∨ q = s1.heap.objs.size + 4 ∨ q = s1.heap.objs.size ∨ q = s1.heap.objs.size + 1 ∨ q = s1.heap.objs.size + 2 := by simpa using hqm
        have hle : s1.heap.objs.size ≤ q := by
          rcases e' with z | z | z | z | z | z
          · rw [z]; exact Nat.le_add_right _ _
          · rw [z]; exact Nat.le_add_right _ _
          · rw [z]; exact Nat.le_add_right _ _
          · rw [z]; exact Nat.le_refl _
          · rw [z]; exact Nat.le_add_right _ _
          · rw [z]; exact Nat.le_add_right _ _
        exact I1.fpOk hle (I1.hok.fresh hle)
def zipT3 (xs ys zs : List D) : List D := (xs.zip (ys.zip zs)).map fun q => .tup [q.1, q.2.1, q.2.2]
def iZp3 (F G E : Env → Option D) : Env → Option (List D) := fun ρ => match F ρ, G ρ, E ρ with
  | some x, some y, some z => if (isLst x && (isLst y && isLst z)) = true then (match seqD x, seqD y, seqD z with | some xs, some ys, some zs => some (zipT3 xs ys zs) | _, _, _ => none) else none
  | _, _, _ => none
theorem zipT3_get : ∀ (xs ys zs : List D) (i : Nat) (d : D), (zipT3 xs ys zs)[i]? = some d → ∃ x y z, xs[i]? = some x ∧ ys[i]? = some y ∧ zs[i]? = some z ∧ d = .tup [x, y, z]
  | [], _, _, _, _, h => by simp [zipT3] at h
  | _ :: _, [], _, _, _, h => by simp [zipT3] at h
  | _ :: _, _ :: _, [], _, _, h => by simp [zipT3] at h
  | x :: xs, y :: ys, z :: zs, 0, d, h => ⟨x, y, z, rfl, rfl, rfl, by simpa [zipT3] using h.symm⟩
  | x :: xs, y :: ys, z :: zs, i + 1, d, h => by
    obtain ⟨u, v, w, h1, h2, h3, h4⟩ := zipT3_get xs ys zs i d (by simpa [zipT3] using h)
    exact ⟨u, v, w, by simpa using h1, by simpa using h2, by simpa using h3, h4⟩
theorem fi_zip3 {X : Cx} {O : List Nat} {e e' e2 : Expr} {p pos : Pos} {F G E : Env → Option D} {elts : List Expr} {kk : Nat} {tpos : Pos} (hg : Gl X "zip") (hm : X.mg "zip" = none) (h : FE X O e F) (h' : FE X O e' G) (h2 : FE X O e2 E)
    (hs : starEach [e, e', e2] X.env = (false, eval e X.env) :: starEach [e', e2] X.env := by rfl) (hs2 : starEach [e', e2] X.env = (false, eval e' X.env) :: starEach [e2] X.env := by rfl) (hs3 : starEach [e2] X.env = (false, eval e2 X.env) :: starEach [] X.env := by rfl) (hpl : (backTo pos (starEach [e', e2] X.env)).any (·.1) = false := by rfl) :
    FI X O (.Tuple elts kk tpos) (.Call (.Name "zip" p) [e, e', e2] [] pos) (iZp3 F G E) := by
  intro φ Hf0 H0 ρ σ Hf H ds R S hF q
  unfold iZp3 at hF
  split at hF
  · rename_i x y z hx hy hz
    split at hF
    · rename_i hl
      have hl := Bool.and_eq_true_iff.mp hl
      have hl2 := Bool.and_eq_true_iff.mp hl.2
      split at hF
      · rename_i xs ys zs hxs hys hzs
        cases hF
        refine toI (pi_zip3 hg hm (pa_cons peW (pa_cons peW (pa_cons peW pa_nil hs3) hs2) hs) hs hpl) ?_
        refine h φ Hf0 H0 ρ σ Hf H x _ S hx fun v Hf1 H1 g1 r1 => ?_
        refine h' φ Hf0 H0 ρ σ Hf1 H1 y _ (S.gr g1) hy fun u Hf2 H2 g2 r2 => ?_
        refine h2 φ Hf0 H0 ρ σ Hf2 H2 z _ ((S.gr g1).gr g2) hz fun w Hf3 H3 g3 r3 => ?_
        obtain ⟨a, vs, e1, q1, w1⟩ := ((r1.mono g2.f).mono g3.f).lst_f hl.1 hxs
        obtain ⟨b, us, e2, q2, w2⟩ := (r2.mono g3.f).lst_f hl2.1 hys
        obtain ⟨c, ws, e3, q3, w3⟩ := r3.lst_f hl2.2 hzs
        refine ⟨a, b, c, vs, us, ws, by rw [e1, e2, e3], g3.s.seq q1, g3.s.seq q2, g3.s.seq q3, q _ Hf3 H3 ((g1.trans g2).trans g3) fun i Hf4 H4 s1 s2 => ?_⟩
        have p1 := (s1.trans s2).seq q1
        have p2 := (s1.trans s2).seq q2
        have p3 := (s1.trans s2).seq q3
        refine ⟨fun hi => ⟨vs, us, ws, p1, p2, p3, rfl, rfl, rfl, ?_⟩, fun d hd => ?_⟩
        · rw [← w1.length, ← w2.length, ← w3.length]
          have : (zipT3 xs ys zs).length = min xs.length (min ys.length zs.length) := by simp [zipT3]
          omega
        · obtain ⟨m, n, o, h1, h2, h3, rfl⟩ := zipT3_get xs ys zs i d hd
          obtain ⟨v1, k1, t1⟩ := w1.get h1
          obtain ⟨v2, k2, t2⟩ := w2.get h2
          obtain ⟨v3, k3, t3⟩ := w3.get h3
          refine ⟨⟨vs, us, ws, v1, v2, v3, p1, p2, p3, k1, k2, k3, rfl, rfl, rfl⟩, fun z H5 ⟨T, z1, z2, z3, e3, e4, e5, e6, e7, e8⟩ => ?_⟩
          have l1 := e6 vs p1
          rw [k1] at l1; cases l1
          have l2 := e7 us p2
          rw [k2] at l2; cases l2
          have l3 := e8 ws p3
          rw [k3] at l3; cases l3
          subst e3
          subst e5
          have g4 : Gr Hf4 H4 (upd Hf4 T (.tup [v1, v2, v3])) (upd H4 T (.tup [v1, v2, v3])) := .new s2 e4
          exact ⟨_, g4, .tup (.inl (.inl upd_same)) (.cons (t1.mono (s1.trans g4.f)) (.cons (t2.mono (s1.trans g4.f)) (.one (t3.mono (s1.trans g4.f)))))⟩
      · cases hF
    · cases hF
  · cases hF
end FL
namespace FL
open PySem

/-! ### loops that add to a list -/
theorem flat_len {α β : Type} {f : α → List β} {M : Nat} : ∀ (ds : List α), (∀ d ∈ ds, (f d).length ≤ M) → (ds.flatMap f).length ≤ ds.length * M
  | [], _ => by simp
  | d :: ds, h => by
    have h1 := h d (.head _)
    have h2 := flat_len ds fun x hx => h x (.tail _ hx)
    rw [List.flatMap_cons, List.length_append, List.length_cons, Nat.add_mul]
    omega
theorem flat_filter {α β : Type} (s : α → Bool) (f : α → List β) : ∀ ds : List α, (ds.filter s).flatMap f = ds.flatMap fun d => if s d = true then f d else []
  | [] => rfl
  | d :: ds => by
    rw [List.flatMap_cons, ← flat_filter s f ds, List.filter_cons]
    cases s d <;> simp
section
variable {A B G : Env → Option Out} {g : D → Env → Option Env} {Fi : Env → Option (List D)} {ρ : Env} {o : Option Out}
theorem loop_add (I : List D → Env → Prop) (f : D → List D) (M cap : Nat) : ∀ (ds acc : List D) (ρ : Env), I acc ρ → acc.length + ds.length * M ≤ cap → (∀ d ∈ ds, (f d).length ≤ M) →
    (∀ (d : D) (acc : List D) (ρ : Env), d ∈ ds → I acc ρ → acc.length + M ≤ cap → ∃ ρ1, g d ρ = some ρ1 ∧ ∃ ρ2, B ρ1 = some (.nx ρ2) ∧ I (acc ++ f d) ρ2) → ∃ ρ', loopF g B ds ρ = some (.nx ρ') ∧ I (acc ++ ds.flatMap f) ρ'
  | [], acc, ρ, hI, _, _, _ => ⟨ρ, rfl, by simpa using hI⟩
  | d :: ds, acc, ρ, hI, hc, hM, h => by
    rw [List.length_cons, Nat.add_mul] at hc
    have hm := hM d (.head _)
    obtain ⟨ρ1, e1, ρ2, e2, hI2⟩ := h d acc ρ (.head _) hI (by omega)
    obtain ⟨ρ3, e3, hI3⟩ := loop_add I f M cap ds (acc ++ f d) ρ2 hI2 (by rw [List.length_append]; omega) (fun x hx => hM x (.tail _ hx)) fun x a r hx => h x a r (.tail _ hx)
    refine ⟨ρ3, ?_, by rw [List.flatMap_cons, ← List.append_assoc]; exact hI3⟩
    unfold loopF
    rw [e1]
    simp only [e2]
    exact e3
theorem seq_add (I : List D → Env → Prop) (f : D → List D) (M cap : Nat) {ds acc : List D} (h : Fi ρ = some ds) (hI : I acc ρ) (hc : acc.length + ds.length * M ≤ cap) (hM : ∀ d ∈ ds, (f d).length ≤ M)
    (st : ∀ (d : D) (acc : List D) (ρ : Env), d ∈ ds → I acc ρ → acc.length + M ≤ cap → ∃ ρ1, g d ρ = some ρ1 ∧ ∃ ρ2, B ρ1 = some (.nx ρ2) ∧ I (acc ++ f d) ρ2) (k : ∀ ρ', I (acc ++ ds.flatMap f) ρ' → G ρ' = o) : sSeq (sFor Fi g B) G ρ = o := by
  obtain ⟨ρ', h1, h2⟩ := loop_add (g := g) (B := B) I f M cap ds acc ρ hI hc hM st
  exact seq_for h h1 (k ρ' h2)
/-- the same, as a statement that goes on -/
theorem nxs_add {J : Env → Prop} (I : List D → Env → Prop) (f : D → List D) (M cap : Nat) {ds acc : List D} (h : Fi ρ = some ds) (hI : I acc ρ) (hc : acc.length + ds.length * M ≤ cap) (hM : ∀ d ∈ ds, (f d).length ≤ M)
    (st : ∀ (d : D) (acc : List D) (ρ : Env), d ∈ ds → I acc ρ → acc.length + M ≤ cap → ∃ ρ1, g d ρ = some ρ1 ∧ ∃ ρ2, B ρ1 = some (.nx ρ2) ∧ I (acc ++ f d) ρ2) (k : ∀ ρ', I (acc ++ ds.flatMap f) ρ' → ∃ ρ2, G ρ' = some (.nx ρ2) ∧ J ρ2) : ∃ ρ2, sSeq (sFor Fi g B) G ρ = some (.nx ρ2) ∧ J ρ2 := by
  obtain ⟨ρ', h1, h2⟩ := loop_add (g := g) (B := B) I f M cap ds acc ρ hI hc hM st
  obtain ⟨ρ2, h3, h4⟩ := k ρ' h2
  exact ⟨ρ2, seq_for h h1 h3, h4⟩
theorem nxs_nil {J : Env → Prop} (h : J ρ) : ∃ ρ2, sNil ρ = some (.nx ρ2) ∧ J ρ2 := ⟨ρ, rfl, h⟩
theorem nxs_if {J : Env → Prop} {C : Env → Option Bool} {b : Bool} (h : C ρ = some b) (k1 : b = true → ∃ ρ2, sSeq A G ρ = some (.nx ρ2) ∧ J ρ2) (k2 : b = false → ∃ ρ2, sSeq B G ρ = some (.nx ρ2) ∧ J ρ2) : ∃ ρ2, sSeq (sIf C A B) G ρ = some (.nx ρ2) ∧ J ρ2 := by
  cases b with
  | true => obtain ⟨ρ2, h1, h2⟩ := k1 rfl; exact ⟨ρ2, seq_t h h1, h2⟩
  | false => obtain ⟨ρ2, h1, h2⟩ := k2 rfl; exact ⟨ρ2, seq_f h h1, h2⟩
theorem nxs_asc {J : Env → Prop} (k : ∃ ρ2, sSeq A (sSeq B G) ρ = some (.nx ρ2) ∧ J ρ2) : ∃ ρ2, sSeq (sSeq A B) G ρ = some (.nx ρ2) ∧ J ρ2 := by
  obtain ⟨ρ2, h1, h2⟩ := k
  exact ⟨ρ2, seq_as h1, h2⟩
theorem nxs_skip {J : Env → Prop} (k : ∃ ρ2, G ρ = some (.nx ρ2) ∧ J ρ2) : ∃ ρ2, sSeq sNil G ρ = some (.nx ρ2) ∧ J ρ2 := k
theorem nxs_set {J : Env → Prop} {F : Env → Option D} {i : Nat} {d : D} (h : F ρ = some d) (k : ∃ ρ2, G (ρ.set i (some d)) = some (.nx ρ2) ∧ J ρ2) : ∃ ρ2, sSeq (sSet i F) G ρ = some (.nx ρ2) ∧ J ρ2 := by
  obtain ⟨ρ2, h1, h2⟩ := k
  exact ⟨ρ2, seq_set h h1, h2⟩
theorem nxs_asg {J : Env → Prop} {F : Env → Option D} {ρ' : Env} {d : D} (h : F ρ = some d) (hg : g d ρ = some ρ') (k : ∃ ρ2, G ρ' = some (.nx ρ2) ∧ J ρ2) : ∃ ρ2, sSeq (sAsg g F) G ρ = some (.nx ρ2) ∧ J ρ2 := by
  obtain ⟨ρ2, h1, h2⟩ := k
  exact ⟨ρ2, seq_asg h hg h1, h2⟩
theorem nxs_app {J : Env → Prop} {F : Env → Option D} {k : Nat} {xs : List D} {d : D} (h1 : F ρ = some d) (h2 : ρ[k]? = some (some (.lst xs))) (hl : xs.length < sizeLine) (kk : ∃ ρ2, G (ρ.set k (some (.lst (xs ++ [d])))) = some (.nx ρ2) ∧ J ρ2) : ∃ ρ2, sSeq (sMut k appendF (aCons F aNil)) G ρ = some (.nx ρ2) ∧ J ρ2 := by
  obtain ⟨ρ2, h3, h4⟩ := kk
  refine ⟨ρ2, seq_mut (ds := [d]) (ys := xs ++ [d]) (aCons_val h1 rfl) h2 ?_ h3, h4⟩
  show (if xs.length < sizeLine then some (xs ++ [d]) else none) = _
  rw [if_pos hl]
theorem iL_v {F : Env → Option D} {ds : List D} (h : F ρ = some (.lst ds)) : iSeq isLst F ρ = some ds := by
  unfold iSeq
  rw [h]; rfl
end
/-! ### loops that look for something -/
section
variable {A B G : Env → Option Out} {g : D → Env → Option Env} {Fi : Env → Option (List D)} {ρ : Env} {o : Option Out}
theorem loop_find (I : Env → Prop) (f : D → Option D) : ∀ (ds : List D) (ρ : Env), I ρ →
    (∀ (d : D) (ρ : Env), d ∈ ds → I ρ → ∃ ρ1, g d ρ = some ρ1 ∧ ((∃ x, f d = some x ∧ B ρ1 = some (.rt x)) ∨ (f d = none ∧ ∃ ρ2, B ρ1 = some (.nx ρ2) ∧ I ρ2))) →
    (∃ x, ds.findSome? f = some x ∧ loopF g B ds ρ = some (.rt x)) ∨ (ds.findSome? f = none ∧ ∃ ρ', loopF g B ds ρ = some (.nx ρ') ∧ I ρ')
  | [], ρ, hI, _ => .inr ⟨rfl, ρ, rfl, hI⟩
  | d :: ds, ρ, hI, h => by
    obtain ⟨ρ1, e1, h2⟩ := h d ρ (.head _) hI
    unfold loopF
    rw [e1, List.findSome?_cons]
    rcases h2 with ⟨x, h2, h3⟩ | ⟨h2, ρ2, h3, hI2⟩
    · exact .inl ⟨x, by rw [h2], by simp only [h3]⟩
    · rw [h2]
      simp only [h3]
      exact loop_find I f ds ρ2 hI2 fun d' ρ' hd => h d' ρ' (.tail _ hd)
theorem seq_find (I : Env → Prop) (f : D → Option D) {ds : List D} (h : Fi ρ = some ds) (hI : I ρ)
    (st : ∀ (d : D) (ρ : Env), d ∈ ds → I ρ → ∃ ρ1, g d ρ = some ρ1 ∧ ((∃ x, f d = some x ∧ B ρ1 = some (.rt x)) ∨ (f d = none ∧ ∃ ρ2, B ρ1 = some (.nx ρ2) ∧ I ρ2)))
    (k1 : ∀ x, ds.findSome? f = some x → some (.rt x) = o) (k2 : ∀ ρ', ds.findSome? f = none → I ρ' → G ρ' = o) : sSeq (sFor Fi g B) G ρ = o := by
  rcases loop_find (g := g) (B := B) I f ds ρ hI st with ⟨x, h1, h2⟩ | ⟨h1, ρ', h2, h3⟩
  · refine Eq.trans ?_ (k1 x h1)
    unfold sSeq sFor
    rw [h]
    simp only [h2]
  · exact seq_for h h2 (k2 ρ' h1 h3)
/-- a loop as a step of another one -/
theorem fs_find {J : Env → Prop} (I : Env → Prop) (f : D → Option D) {ds : List D} {r : Option D} (h : Fi ρ = some ds) (hI : I ρ) (hr : ds.findSome? f = r)
    (st : ∀ (d : D) (ρ : Env), d ∈ ds → I ρ → ∃ ρ1, g d ρ = some ρ1 ∧ ((∃ x, f d = some x ∧ B ρ1 = some (.rt x)) ∨ (f d = none ∧ ∃ ρ2, B ρ1 = some (.nx ρ2) ∧ I ρ2)))
    (k : ∀ ρ', I ρ' → J ρ') : (∃ x, r = some x ∧ sSeq (sFor Fi g B) sNil ρ = some (.rt x)) ∨ (r = none ∧ ∃ ρ2, sSeq (sFor Fi g B) sNil ρ = some (.nx ρ2) ∧ J ρ2) := by
  subst hr
  rcases loop_find (g := g) (B := B) I f ds ρ hI st with ⟨x, h1, h2⟩ | ⟨h1, ρ', h2, h3⟩
  · refine .inl ⟨x, h1, ?_⟩
    unfold sSeq sFor
    rw [h]
    simp only [h2]
  · exact .inr ⟨h1, ρ', seq_for h h2 rfl, k ρ' h3⟩
end
theorem findSome_if {α : Type} (P : D → Bool) (f : D → α) : ∀ ds : List D, (ds.findSome? fun d => if P d = true then some (f d) else none) = (ds.find? P).map f
  | [] => rfl
  | d :: ds => by
    rw [List.findSome?_cons, List.find?_cons]
    have ih := findSome_if P f ds
    cases P d
    · exact ih
    · rfl
theorem findSome_filter {α : Type} (s : D → Bool) (f : D → Option α) : ∀ ds : List D, (∀ d ∈ ds, s d = false → f d = none) → (ds.filter s).findSome? f = ds.findSome? f
  | [], _ => rfl
  | d :: ds, h => by
    have ih := findSome_filter s f ds fun x hx => h x (.tail _ hx)
    rw [List.filter_cons, List.findSome?_cons]
    cases hs : s d with
    | true => rw [if_pos rfl, List.findSome?_cons, ih]
    | false => rw [if_neg (by decide), h d (.head _) hs, ih]
/-! ### the very same data -/
mutual
def sd : D → D → Bool
  | .non, .non => true
  | .bl b, .bl c => b == c
  | .int i, .int j => decide (i = j)
  | .str x, .str y => decide (x = y)
  | .tup xs, .tup ys => sds xs ys
  | .lst xs, .lst ys => sds xs ys
  | .klst xs, .klst ys => sds xs ys
  | _, _ => false
def sds : List D → List D → Bool
  | [], [] => true
  | x :: xs, y :: ys => sd x y && sds xs ys
  | _, _ => false
end
mutual
theorem sd_ok : ∀ {x y : D}, sd x y = true → x = y
  | .non, y, h => by cases y <;> simp [sd] at h; rfl
  | .bl b, y, h => by cases y <;> simp [sd] at h; rw [h]
  | .int i, y, h => by cases y <;> simp [sd] at h; rw [h]
  | .str z, y, h => by cases y <;> simp [sd] at h; rw [h]
  | .tup xs, y, h => by cases y <;> simp only [sd] at h <;> first | rw [sds_ok h] | cases h
  | .lst xs, y, h => by cases y <;> simp only [sd] at h <;> first | rw [sds_ok h] | cases h
  | .klst xs, y, h => by cases y <;> simp only [sd] at h <;> first | rw [sds_ok h] | cases h
  | .obj i, y, h => by cases y <;> simp [sd] at h
  | .ins _ _ _, y, h => by cases y <;> simp [sd] at h
  | .dct _ _, y, h => by cases y <;> simp [sd] at h
theorem sds_ok : ∀ {xs ys : List D}, sds xs ys = true → xs = ys
  | [], [], _ => rfl
  | x :: xs, y :: ys, h => by
    simp only [sds, Bool.and_eq_true] at h
    rw [sd_ok h.1, sds_ok h.2]
  | [], _ :: _, h => by simp [sds] at h
  | _ :: _, [], h => by simp [sds] at h
end
theorem sd_mem {x : D} {ys : List D} (h : ys.any (sd x) = true) : x ∈ ys := by
  obtain ⟨y, h1, h2⟩ := List.any_eq_true.mp h
  rw [sd_ok h2]; exact h1
theorem map2_eq {α β γ : Type} {f g : α → β → γ} {xs : List α} {ys : List β} (h : (xs.map fun x => ys.map (f x)) = xs.map fun x => ys.map (g x)) {x : α} (hx : x ∈ xs) {y : β} (hy : y ∈ ys) : f x y = g x y :=
  List.map_inj_left.mp (List.map_inj_left.mp h x hx) y hy
end FL
namespace FL
open PySem

/-! ### masks -/
def maskN : List Bool → Nat → Nat
  | [], _ => 0
  | b :: bs, i => (if b then 2 ^ i else 0) ||| maskN bs (i + 1)
theorem bit_mask : ∀ (bs : List Bool) (i j : Nat), (maskN bs i).testBit j = (decide (i ≤ j) && bs.getD (j - i) false)
  | [], i, j => by simp [maskN]
  | b :: bs, i, j => by
    have e0 : maskN (b :: bs) i = (if b then 2 ^ i else 0) ||| maskN bs (i + 1) := by simp [maskN]
    have hb : (if b then 2 ^ i else 0 : Nat).testBit j = (b && decide (i = j)) := by cases b <;> simp [Nat.testBit_two_pow]
    rw [e0, Nat.testBit_or, bit_mask bs (i + 1) j, hb]
    rcases Nat.lt_trichotomy i j with h | h | h
    · obtain ⟨k, rfl⟩ : ∃ k, j = i + 1 + k := ⟨j - (i + 1), by omega⟩
      have e1 : i + 1 + k - i = k + 1 := by omega
      have e2 : i + 1 + k - (i + 1) = k := by omega
      rw [e1, e2, decide_eq_false (show ¬ i = i + 1 + k by omega), decide_eq_true (show i + 1 ≤ i + 1 + k by omega), decide_eq_true (show i ≤ i + 1 + k by omega), Bool.and_false, Bool.false_or, List.getD_cons_succ]
    · subst h
      rw [decide_eq_true (rfl : i = i), decide_eq_false (show ¬ i + 1 ≤ i by omega), decide_eq_true (Nat.le_refl i), Nat.sub_self, List.getD_cons_zero]
      cases b <;> rfl
    · rw [decide_eq_false (show ¬ i = j by omega), decide_eq_false (show ¬ i + 1 ≤ j by omega), decide_eq_false (show ¬ i ≤ j by omega)]
      cases b <;> rfl
theorem or_nat (m n : Nat) : Builtin.bitOr (m : Int) (n : Int) = ((m ||| n : Nat) : Int) := by
  unfold Builtin.bitOr Builtin.bitAnd
  have h1 : ¬ (0 ≤ Builtin.bitNot (m : Int)) := by unfold Builtin.bitNot; omega
  have h2 : ¬ (0 ≤ Builtin.bitNot (n : Int)) := by unfold Builtin.bitNot; omega
  have e : ∀ k : Nat, (Builtin.bitNot (Builtin.bitNot (k : Int))).toNat = k := fun k => by unfold Builtin.bitNot; omega
  rw [decide_eq_false h1, decide_eq_false h2]
  simp only [e]
  unfold Builtin.bitNot
  omega
theorem and_nat (m n : Nat) : Builtin.bitAnd (m : Int) (Builtin.bitNot (n : Int)) = (m : Int) - ((m &&& n : Nat) : Int) := by
  unfold Builtin.bitAnd
  have h1 : 0 ≤ (m : Int) := by omega
  have h2 : ¬ (0 ≤ Builtin.bitNot (n : Int)) := by unfold Builtin.bitNot; omega
  have e : (Builtin.bitNot (Builtin.bitNot (n : Int))).toNat = n := by unfold Builtin.bitNot; omega
  rw [decide_eq_true h1, decide_eq_false h2]
  simp only [e, Int.toNat_natCast]
theorem and2_nat (m n : Nat) : Builtin.bitAnd (m : Int) (n : Int) = ((m &&& n : Nat) : Int) := by
  unfold Builtin.bitAnd
  rw [decide_eq_true (show 0 ≤ (m : Int) by omega), decide_eq_true (show 0 ≤ (n : Int) by omega)]
  simp only [Int.toNat_natCast]
/-- the mask of the indexes below n at which p holds -/
def maskF (n : Nat) (p : Nat → Bool) : Nat := maskN ((List.range n).map p) 0
theorem maskF_bit (n : Nat) (p : Nat → Bool) (k : Nat) : (maskF n p).testBit k = (decide (k < n) && p k) := by
  unfold maskF
  rw [bit_mask, Nat.sub_zero, decide_eq_true (Nat.zero_le k), Bool.true_and, List.getD_eq_getElem?_getD, List.getElem?_map]
  by_cases h : k < n
  · rw [List.getElem?_range h, decide_eq_true h]; rfl
  · rw [List.getElem?_eq_none (by simpa using h), decide_eq_false h]; rfl
theorem maskF_of (bs : List Bool) : maskN bs 0 = maskF bs.length fun k => bs.getD k false := by
  unfold maskF
  refine congrArg (fun l => maskN l 0) (List.ext_getElem? fun i => ?_)
  rw [List.getElem?_map]
  by_cases h : i < bs.length
  · rw [List.getElem?_range h, List.getElem?_eq_getElem h]; simp [h]
  · rw [List.getElem?_eq_none (by simpa using h), List.getElem?_eq_none (by simpa using h)]; rfl
theorem maskF_ext {n : Nat} {p q : Nat → Bool} (h : ∀ k, k < n → p k = q k) : maskF n p = maskF n q := by
  unfold maskF
  exact congrArg (fun l => maskN l 0) (List.map_congr_left fun k hk => h k (List.mem_range.mp hk))
theorem maskF_or (n : Nat) (p q : Nat → Bool) : Builtin.bitOr (maskF n p : Int) (maskF n q : Int) = (maskF n fun k => p k || q k : Nat) := by
  rw [or_nat]
  refine congrArg Nat.cast (Nat.eq_of_testBit_eq fun k => ?_)
  rw [Nat.testBit_or, maskF_bit, maskF_bit, maskF_bit, Bool.and_or_distrib_left]
theorem maskF_and (n : Nat) (p q : Nat → Bool) : Builtin.bitAnd (maskF n p : Int) (maskF n q : Int) = (maskF n fun k => p k && q k : Nat) := by
  rw [and2_nat]
  refine congrArg Nat.cast (Nat.eq_of_testBit_eq fun k => ?_)
  rw [Nat.testBit_and, maskF_bit, maskF_bit, maskF_bit]
  cases decide (k < n) <;> simp
theorem or_add : ∀ (a b : Nat), a &&& b = 0 → a ||| b = a + b := by
  intro a
  induction a using Nat.strongRecOn with
  | ind a ih =>
    intro b h
    by_cases h0 : a = 0
    · subst h0; simp
    · have h1 : (a / 2) &&& (b / 2) = 0 := by
        have := congrArg (· / 2 ^ 1) h
        simp only [Nat.and_div_two_pow] at this
        simpa using this
      have h2 := ih (a / 2) (by omega) (b / 2) h1
      have e1 : (a ||| b) / 2 = a / 2 + b / 2 := by
        have := Nat.or_div_two_pow (a := a) (b := b) (n := 1)
        simp only [Nat.pow_one] at this
        rw [this]; exact h2
      have e2 : (a ||| b) % 2 = a % 2 ||| b % 2 := by
        have := Nat.or_mod_two_pow (a := a) (b := b) (n := 1)
        simpa using this
      have e3 : a % 2 &&& b % 2 = 0 := by
        have := congrArg (· % 2 ^ 1) h
        simp only [Nat.and_mod_two_pow] at this
        simpa using this
      have ha : a % 2 = 0 ∨ a % 2 = 1 := by omega
      have hb : b % 2 = 0 ∨ b % 2 = 1 := by omega
      rcases ha with ha | ha <;> rcases hb with hb | hb <;> simp only [ha, hb] at e2 e3 <;> first | (exact absurd e3 (by decide)) | (have e4 : (a ||| b) % 2 = a % 2 + b % 2 := by rw [e2, ha, hb]; decide) <;> omega
theorem and_sub (m n : Nat) : m - (m &&& n) = m &&& (m ^^^ n) := by
  have h1 : (m &&& n) + (m &&& (m ^^^ n)) = m := by
    have d : (m &&& n) &&& (m &&& (m ^^^ n)) = 0 := Nat.eq_of_testBit_eq fun k => by
      simp only [Nat.testBit_and, Nat.testBit_xor, Nat.zero_testBit]
      cases m.testBit k <;> cases n.testBit k <;> rfl
    have o : (m &&& n) ||| (m &&& (m ^^^ n)) = m := Nat.eq_of_testBit_eq fun k => by
      simp only [Nat.testBit_and, Nat.testBit_xor, Nat.testBit_or]
      cases m.testBit k <;> cases n.testBit k <;> rfl
    exact (or_add _ _ d).symm.trans o
  omega
theorem maskF_sub (n : Nat) (p q : Nat → Bool) : Builtin.bitAnd (maskF n p : Int) (Builtin.bitNot (maskF n q : Int)) = (maskF n fun k => p k && !q k : Nat) := by
  rw [and_nat]
  have le : maskF n p &&& maskF n q ≤ maskF n p := Nat.and_le_left
  rw [← Int.ofNat_sub le, and_sub]
  refine congrArg Nat.cast (Nat.eq_of_testBit_eq fun k => ?_)
  rw [Nat.testBit_and, Nat.testBit_xor, maskF_bit, maskF_bit, maskF_bit]
  cases decide (k < n) <;> cases p k <;> cases q k <;> rfl
theorem maskF_lt (n : Nat) (p : Nat → Bool) : maskF n p < 2 ^ n := Nat.lt_pow_two_of_testBit _ fun k hk => by
  rw [maskF_bit, decide_eq_false (by omega), Bool.false_and]
theorem mask_tru (m k : Nat) : tB truD (e2 andD (e2 shrD (eC (.int (m : Int))) (eC (.int (k : Int)))) (eC (.int 1))) [] = some (m.testBit k) := by
  refine tB_val (e2_val (x := .int ((m / 2 ^ k : Nat) : Int)) (y := .int ((1 : Nat) : Int)) (e2_val (x := .int (m : Int)) (y := .int (k : Int)) rfl rfl ?_) rfl rfl) ?_
  · show (if 0 ≤ (k : Int) then some (D.int ((m : Int) / 2 ^ (k : Int).toNat)) else none) = _
    rw [if_pos (by omega), Int.toNat_natCast]
    simp
  · show some (Builtin.bitAnd ((m / 2 ^ k : Nat) : Int) ((1 : Nat) : Int) != 0) = _
    rw [and2_nat]
    refine congrArg some ?_
    unfold Nat.testBit
    rw [Nat.shiftRight_eq_div_pow, Nat.and_comm]
    rw [Bool.eq_iff_iff, bne_iff_ne, bne_iff_ne]
    omega
theorem mask_tst {i j : Nat} {ρ : Env} {m k : Nat} (h1 : ρ[i]? = some (some (.int (m : Int)))) (h2 : ρ[j]? = some (some (.int (k : Int)))) : tB truD (e2 andD (e2 shrD (eVar i) (eVar j)) (eC (.int 1))) ρ = some (m.testBit k) := by
  have h := mask_tru m k
  have e1 : eVar i ρ = eC (.int (m : Int)) [] := var_v h1
  have e2' : eVar j ρ = eC (.int (k : Int)) [] := var_v h2
  have e3 : e2 shrD (eVar i) (eVar j) ρ = e2 shrD (eC (.int (m : Int))) (eC (.int (k : Int))) [] := by unfold e2; rw [e1, e2']
  have e4 : e2 andD (e2 shrD (eVar i) (eVar j)) (eC (.int 1)) ρ = e2 andD (e2 shrD (eC (.int (m : Int))) (eC (.int (k : Int)))) (eC (.int 1)) [] := by
    unfold e2 at e3 ⊢; rw [e3]; rfl
  unfold tB at h ⊢
  rw [e4]; exact h
theorem filter_up (a b : Nat) (p : Nat → Bool) (h : ∀ k, a ≤ k → p k = false) (hab : a ≤ b) : (List.range a).filter p = (List.range b).filter p := by
  obtain ⟨c, rfl⟩ : ∃ c, b = a + c := ⟨b - a, by omega⟩
  rw [List.range_add, List.filter_append]
  have : ((List.range c).map (a + ·)).filter p = [] := by
    rw [List.filter_eq_nil_iff]
    intro x hx
    obtain ⟨y, _, rfl⟩ := List.mem_map.mp hx
    rw [h (a + y) (by omega)]; decide
  rw [this, List.append_nil]
/-- the indexes in the mask -/
def idxB (n : Nat) (p : Nat → Bool) : List D := ((List.range n).filter p).map fun k : Nat => D.int (k : Int)
def bitsG : Env → Option Out :=
    (sSeq (sRet (eComp [1] (iRng1 (aCons (e1 blenD (eVar 0)) aNil)) (gSet 1) (tB truD (e2 andD (e2 shrD (eVar 0) (eVar 1)) (eC (.int 1)))) (eVar 1)))
    sNil)
theorem bits_rt (n : Nat) (hn : n ≤ 60) (p : Nat → Bool) : bitsG [some (.int (maskF n p : Nat)), none] = some (.rt (.lst (idxB n p))) := by
  have hb : Builtin.Int.intBits ((maskF n p : Nat) : Int) ≤ n := intBits_le_iff.mpr (by simpa using maskF_lt n p)
  have hlt : maskF n p < 2 ^ Builtin.Int.intBits ((maskF n p : Nat) : Int) := by
    have := intBits_le_iff.mp (Nat.le_refl (Builtin.Int.intBits ((maskF n p : Nat) : Int)))
    simpa using this
  have hi : iRng1 (aCons (e1 blenD (eVar 0)) aNil) [some (.int (maskF n p : Nat)), none] = some (rngD 0 (Builtin.Int.intBits ((maskF n p : Nat) : Int))) := by
    unfold iRng1
    rw [show aCons (e1 blenD (eVar 0)) aNil [some (.int (maskF n p : Nat)), none] = some [.int ((Builtin.Int.intBits ((maskF n p : Nat) : Int) : Nat) : Int)] from rfl]
    show (if -(2 ^ 62) ≤ ((Builtin.Int.intBits ((maskF n p : Nat) : Int) : Nat) : Int) ∧ ((Builtin.Int.intBits ((maskF n p : Nat) : Int) : Nat) : Int) < 2 ^ 62 then some (rngD 0 _) else none) = _
    rw [if_pos (by omega), Int.toNat_natCast]
  generalize Builtin.Int.intBits ((maskF n p : Nat) : Int) = b at hb hlt hi
  refine seq_ret (comp_v (ds := rngD 0 b) hi (by rw [rngD_len, PySem.sizeLine_eq]; omega) ?_)
  have h := compL_if (i := 1) (T := tB truD (e2 andD (e2 shrD (eVar 0) (eVar 1)) (eC (.int 1)))) (E := eVar 1) (ρ := [some (.int (maskF n p : Nat)), none]) (fun d => match d with | .int z => (maskF n p).testBit z.toNat | _ => false) id (rngD 0 b) (fun d hd => by
    obtain ⟨k, hk, rfl⟩ := List.mem_map.mp hd
    have e0 : (0 + (k : Int)) = (k : Int) := by omega
    rw [e0]
    refine ⟨(mask_tst (m := maskF n p) (k := k) rfl rfl).trans ?_, rfl⟩
    show _ = some ((maskF n p).testBit (k : Int).toNat)
    rw [Int.toNat_natCast])
  refine (show _ = some _ from h).trans ?_
  rw [List.map_id]
  refine congrArg (fun l => some l) ?_
  unfold rngD idxB
  rw [List.filter_map]
  have e1 : ((List.range b).filter ((fun d => match d with | .int z => (maskF n p).testBit z.toNat | _ => false) ∘ fun k : Nat => D.int (0 + (k : Int)))) = (List.range n).filter p := by
    have e2 : ((List.range b).filter ((fun d => match d with | .int z => (maskF n p).testBit z.toNat | _ => false) ∘ fun k : Nat => D.int (0 + (k : Int)))) = (List.range b).filter fun k => (maskF n p).testBit k :=
      List.filter_congr fun k _ => by
        show (maskF n p).testBit (0 + (k : Int)).toNat = _
        rw [show (0 + (k : Int)).toNat = k by omega]
    rw [e2, filter_up b n _ (fun k hk => Nat.testBit_lt_two_pow (Nat.lt_of_lt_of_le hlt (Nat.pow_le_pow_right (by decide) hk))) hb]
    exact List.filter_congr fun k hk => by rw [maskF_bit, decide_eq_true (List.mem_range.mp hk), Bool.true_and]
  rw [e1]
  exact List.map_congr_left fun k _ => by rw [show (0 + (k : Int)) = (k : Int) by omega]
end FL
namespace FL
open PySem L2

/-! ### displays of constants, at once -/
def c0 : Expr → Option D
  | .Constant (.int i) _ _ => some (.int i)
  | .Constant (.bool b) _ _ => some (.bl b)
  | .Constant .none _ _ => some .non
  | .Constant (.str x) _ _ => some (.str x)
  | _ => none
def cAll (f : Expr → Option D) : List Expr → Option (List D)
  | [] => some []
  | e :: es => match f e, cAll f es with | some d, some ds => some (d :: ds) | _, _ => none
def cTup (f : Expr → Option D) : Expr → Option D
  | .Tuple es _ _ => (match cAll f es with | some ds => if ds.length ≤ 1000 then some (.tup ds) else none | none => none)
  | e => f e
def c1 : Expr → Option D := cTup c0
def c2 : Expr → Option D := cTup c1
/-- its value is d wherever it stands, and it is no star -/
def Cst (f : Expr → Option D) : Prop := ∀ (X : Cx) (O : List Nat) (e : Expr) (d : D), f e = some d → FE X O e (eC d) ∧ ∀ es : List Expr, starEach (e :: es) X.env = (false, eval e X.env) :: starEach es X.env
theorem cst0 : Cst c0 := fun X O e d h => by
  unfold c0 at h
  split at h <;> first | (cases h; done) | (cases h; exact ⟨fe_int, fun _ => rfl⟩) | (cases h; exact ⟨fe_bl, fun _ => rfl⟩) | (cases h; exact ⟨fe_non, fun _ => rfl⟩) | (cases h; exact ⟨fe_str, fun _ => rfl⟩)
def aK (ds : List D) : Env → Option (List D) := fun _ => some ds
theorem fa_all {f : Expr → Option D} (hf : Cst f) {X : Cx} {O : List Nat} : ∀ {es : List Expr} {ds : List D}, cAll f es = some ds → FA X O es (aK ds)
  | [], ds, h => by cases h; exact fa_nil
  | e :: es, ds, h => by
    unfold cAll at h
    split at h
    · rename_i d ds' h1 h2
      cases h
      obtain ⟨q1, q2⟩ := hf X O e d h1
      exact fa_cons q1 (fa_all hf h2) (q2 es)
    · cases h
theorem cst_tup {f : Expr → Option D} (hf : Cst f) : Cst (cTup f) := fun X O e d h => by
  unfold cTup at h
  split at h
  · rename_i es x pos
    split at h
    · rename_i ds hds
      split at h
      · rename_i hl
        cases h
        refine ⟨?_, fun _ => rfl⟩
        have q : FE X O (.Tuple es x pos) (eL tupD (aK ds)) := fe_tup (fa_all hf hds)
        have e1 : (eL tupD (aK ds)) = eC (.tup ds) := by
          funext ρ
          show tupD ds = some (.tup ds)
          unfold tupD
          rw [if_pos (by rw [PySem.sizeLine_eq]; omega)]
        rw [e1] at q
        exact q
      · cases h
    · cases h
  · exact hf X O _ d h
theorem cst1 : Cst c1 := cst_tup cst0
theorem cst2 : Cst c2 := cst_tup cst1
section
variable {X : Cx} {O : List Nat} {e : Expr} {es : List Expr} {d : D} {ds : List D}
theorem fe_cst (h : c2 e = some d) : FE X O e (eC d) := (cst2 X O e d h).1
theorem fa_cst (h : cAll c2 es = some ds) : FA X O es (aK ds) := fa_all cst2 h
end
end FL
namespace FL
open PySem PySem.Spec PyProof.Rows L2

/-! ### xs.count(x) of flat data -/
def rCntV (K : PySem.W.Frag) : V → List V → Hp → VK → Prop := fun x xs H Q => ∃ (a : Addr) (ys : List V) (y : V), x = V.ref a ∧ xs = [y] ∧ SqL K H a ys ∧ flatV y = true ∧ ys.all flatV = true ∧ Q (.int (ys.countP fun z => eqV z y : Nat)) H
theorem cnt_vals {y : V} : ∀ {ys : List V} {us : List Value}, Vals ys us → ys.all flatV = true → us.countP (eqU y) = ys.countP fun z => eqV z y
  | [], [], .nil, _ => rfl
  | v :: vs, u :: us, .cons r t, f => by
    rw [List.all_cons, Bool.and_eq_true] at f
    rw [List.countP_cons, List.countP_cons, cnt_vals t f.2, eqU_of r f.1]
theorem mt_cnt {X : Cx} : MtR X "list.count" (rCntV X.K) := by
  intro pins s σ H x xs v us Q I rx rxs h
  obtain ⟨a, ys, y, rfl, rfl, hs, fy, fys, q⟩ := h
  cases rx
  cases rxs with
  | cons ry rt =>
    rename_i uy ut
    cases rt
    obtain ⟨its, rv, ⟨⟨cls, dd, data, sl⟩, n, ho, hc, hdn, hd⟩, hlen⟩ := I.list hs
    simp only at hc hd
    subst hc hd
    refine call_meets PySem.F.slot_list_count ⟨_, ho, rfl⟩ PySem.F.entry_list_count (PySem.F.args_list_count_2 _ _)
      (SeqAt.list_countAt a its.toArray n dd sl uy (eqU y)) ⟨ho, fun u' hu' => mem_eqAt ry fy rv fys u' (by simpa using hu'), ?_⟩
    refine ⟨.int (ys.countP fun z => eqV z y : Nat), H, I.tok _, ⟨s.toks, ?_⟩, q⟩
    show Value.int ((its.countP (eqU y) : Nat) : Int) s.toks = _
    rw [cnt_vals rv fys]
def countD (x : D) (ds : List D) : Option D := match ds with
  | [y] => if isLst x && flatD y then (match seqD x with | some xs => if xs.all flatD then some (.int (xs.countP fun z => deq z y : Nat)) else none | none => none) else none
  | _ => none
section
variable {X : Cx} {O : List Nat} {o e : Expr} {es : List Expr} {F G : Env → Option D} {Fs : Env → Option (List D)}
theorem cnt_ok {K : PySem.W.Frag} {φ : Nat → Option Addr} {Hf H2 : Hp} {y : D} {u : V} (q : Rp K φ H2 y u) (hy : flatD y = true) : ∀ {xs : List D} {vs : List V}, xs.all flatD = true → RpAll K φ Hf xs vs → (vs.countP fun z => eqV z u) = xs.countP fun z => deq z y
  | [], _, _, .nil => rfl
  | x :: xs, _, hf, .cons r t => by
    simp only [List.all_cons, Bool.and_eq_true] at hf
    rw [List.countP_cons, List.countP_cons, cnt_ok q hy hf.2 t, eqV_deq r q hf.1 hy]
theorem flat_allc {K : PySem.W.Frag} {φ : Nat → Option Addr} {Hf : Hp} : ∀ {xs : List D} {ws : List V}, RpAll K φ Hf xs ws → xs.all flatD = true → ws.all flatV = true
  | [], _, .nil, _ => rfl
  | _ :: _, _, .cons r t, h => by
    simp only [List.all_cons, Bool.and_eq_true] at h ⊢
    refine ⟨?_, flat_allc t h.2⟩
    cases r <;> first | rfl | cases h.1
theorem count_op {K : PySem.W.Frag} : OpM K "list" (rCntV K) countD := by
  intro φ Hf H Hf1 H1 x ds d v vs Q s g r1 r2 h k
  unfold countD at h
  split at h
  · rename_i y
    split at h
    · rename_i hc
      simp only [Bool.and_eq_true] at hc
      split at h
      · rename_i xs hxs
        split at h
        · rename_i hall
          cases h
          obtain ⟨u, rfl, ru⟩ := r2.one
          have ru' : Rp K φ Hf1 y u := by
            rcases ru with r | ⟨_, _, _, e1, _⟩
            · exact r
            · rw [e1] at hc; cases hc.2
          obtain ⟨p, ws, hv, hL, rw'⟩ := isLst_sq g.s (r1.gr g) hc.1 hxs
          have flu : flatV u = true := by
            have := flat_allc (.one ru') (show [y].all flatD = true by simp [hc.2])
            simpa using this
          refine ⟨p, ws, u, hv, rfl, hL, flu, flat_allc rw' hall, ?_⟩
          rw [cnt_ok ru' hc.2 hall rw']
          exact k _ Hf1 H1 (.refl g.s) (.int _)
        · cases h
      · cases h
    · cases h
  · cases h
theorem fe_counted {apos cpos : Pos} (ho : FB X O o F) (ha : FBA X O [e] Fs) (hbase : attributeBase o "count" X.env (eval o X.env) = eval o X.env := by rfl)
    (hfew : ((backTo cpos (starEach [e] X.env)).all (fun x => !x.1) && (backToKw cpos (keywordEach [] X.env)).all (fun x => x.1.isSome) && decide ([e].length + ([] : List Keyword).length + (if ([] : List Keyword).isEmpty then 0 else 1) < 30)) = true := by rfl)
    (hline : (apos.endLine == cpos.line) = true := by rfl) (hs : starEach [e] X.env = (false, eval e X.env) :: starEach [] X.env := by rfl) : FE X O (.Call (.Attribute o "count" apos) [e] [] cpos) (eM countD F Fs) :=
  fe_meth PySem.F.plainAttrs_list PySem.F.slot_list_count PySem.F.type_list_count mt_cnt count_op (fun φ Hf H x ds d v s r h => by
    unfold countD at h
    split at h
    · split at h
      · rename_i hc
        simp only [Bool.and_eq_true] at hc
        split at h
        · rename_i xs hxs
          obtain ⟨p, ws, rfl, hL, _⟩ := isLst_sq s r hc.1 hxs
          exact .inl ⟨rfl, ws, hL⟩
        · cases h
      · cases h
    · cases h) ho ha hbase hfew hline hs
end

/-! ### a, *b = xs -/
def tGStar (K : PySem.W.Frag) (t : TGs) : TG := fun v σ H Q => ∃ (l : Addr) (x : V) (ys : List V), v = .ref l ∧ SqL K H l (x :: ys) ∧ (x :: ys).length ≤ 16384 ∧ ∀ D, H D = none → t [x, .ref D] σ (upd H D (.lst ys)) Q
theorem pg_star {X : Cx} {es : List Expr} {k : Nat} {pos : Pos} {t : TGs} (hc : X.calm = true) (h : PGs X es t) (hn : (assignEach es X.env).length = 2 := by rfl) (hst : (assignEach es X.env).findIdx? (·.1) = some 1 := by rfl) : PG X (.Tuple es k pos) (tGStar X.K t) := by
  refine ⟨fun pins s σ H v u Q I r hw => ?_⟩
  obtain ⟨l, x, ys, rfl, hq, hl, hw⟩ := hw
  cases r
  obtain ⟨its, rv, p, _⟩ := I.list hq
  cases rv with
  | cons rx rys =>
    rename_i ux uys
    have hls : s.heap.IsList l (ux :: uys).toArray := p.isList
    have hh := I.ok.hd hc
    have hlen : uys.length = ys.length := rys.length.symm
    have hl' : ys.length + 1 ≤ 16384 := hl
    have hlt : l ≠ s.heap.objs.size := Nat.ne_of_lt p.lt
    rw [assign_Tuple]
    refine wpAny_bind (wpAny_standAt ?_)
    unfold unpack
    rw [hn, hst]
    refine wpAny_bind (wpAny_holding ?_)
    unfold unpackItems
    refine wpAny_bind ?_
    unfold notIterableAtAll
    refine wpAny_bind (wpAny_specialOf hls.typeIs PySem.F.slot_list_iter.lookup ?_)
    refine wpAny_pure ?_
    simp only [Bool.false_eq_true, if_false]
    refine wpAny_bind (wpAny_holding (wpAny_pyIter_list hls ?_))
    refine wpAny_bind (wpAny_holding (PySem.W.kun_draw hlt 1 0 _ _ ⟨_, Heap.get?_push_size _ rfl, rfl, rfl⟩ (hls.push _) (by simp) fun h₁ hit₁ hs₁ => ?_))
    have hl₁ : h₁.IsList l (ux :: uys).toArray := (hls.push _).extBut hs₁.extBut hlt
    rw [Nat.zero_add] at hit₁
    have hit₁' := hit₁
    obtain ⟨oi, hoi, _⟩ := hit₁'
    have hl₁' := hl₁
    obtain ⟨ol, hol, _⟩ := hl₁'
    rw [List.drop_zero]
    have hfl : ((ux :: uys).toArray.toList.take 1) = [ux] := rfl
    rw [hfl, if_neg (show ¬ ([ux].length < 1) by simp)]
    refine wpAny_bind (wpAny_holding (PySem.W.kun_collect (s := { s with heap := h₁ }) (T := "list_iterator") (.inr (.inr (.inl rfl))) (Walks.list (A := X.A.in1) hh s.heap.objs.size l hlt (ux :: uys).toArray) (fun j u st => st.1.typeIs) (k := 1) (by simp) ⟨hit₁, hl₁⟩ (Heap.lt_size hoi) (Heap.lt_size hol) (fun h₂ tk hk => ?_) (by simp; rw [sizeLine_eq]; omega)))
    have hrl : ((ux :: uys).toArray.toList.drop 1) = uys := rfl
    rw [hrl]
    show wpAny _ _ (if uys.length < 0 then _ else _) _ _ _
    rw [if_neg (Nat.not_lt_zero _)]
    show wpAny _ _ (newList (uys.take (uys.length - 0)) >>= fun d => pure ([ux] ++ [d] ++ uys.drop (uys.length - 0))) _ _ _
    rw [Nat.sub_zero, List.take_length, List.drop_length]
    have hkeep : ∀ b o, s.heap.get? b = some o → h₂.get? b = some o := fun b o e => by
      have hb : b ≠ s.heap.objs.size := Nat.ne_of_lt (Heap.lt_size e)
      exact hk b o hb (hs₁.extBut b o hb (Heap.get?_push_of_some _ e))
    have I1 : Inv X pins σ H { s with heap := h₂, toks := tk } := I.kept (t' := tk) hkeep
    refine wpAny_bind (wpAny_newList (wpAny_pure ?_))
    have hf : H h₂.objs.size = none := I1.hok.fresh (Nat.le_refl _)
    have I2 : Inv X pins σ (upd H h₂.objs.size (.lst ys)) { s with heap := h₂.push { cls := .type "list", data := .seq uys.toArray }, toks := tk } :=
      I1.laid (t' := tk) (fun b u e => Heap.get?_push_of_some _ e) (Nat.le_refl _) ⟨by rw [sizeLine_eq]; omega, uys, 0, rys, Heap.get?_push_size _ rfl⟩
    exact h.run pins _ σ (upd H h₂.objs.size (.lst ys)) [x, .ref h₂.objs.size] [ux, .ref h₂.objs.size] Q I2 (.cons rx (.cons rfl .nil)) (hw _ hf)
theorem pgs_starred {X : Cx} {e : Expr} {p : Pos} {es : List Expr} {t : TG} {u : TGs} (h1 : PG X e t) (h2 : PGs X es u)
    (hs : (assignEach (.Starred e p :: es) X.env).map (·.2) = assign e X.env :: (assignEach es X.env).map (·.2) := by rfl) : PGs X (.Starred e p :: es) (L2.gCons t u) := by
  refine ⟨fun pins s σ H vs us Q I r h => ?_⟩
  obtain ⟨v, vr, rfl, h⟩ := h
  cases r with
  | cons r rr =>
    rw [hs]
    refine assignInOrder_cons (thn (h1.run pins s σ H _ _ _ I r h) fun _ s1 ⟨σ1, H1, I1, q1⟩ => ?_)
    exact h2.run pins s1 σ1 H1 _ _ Q I1 rr q1
def sStar (i j : Nat) (F : Env → Option D) : Env → Option Out := fun ρ => match F ρ with
  | some d => if isLst d then (match seqD d with | some (x :: ys) => if ys.length < 16384 then some (.nx ((ρ.set i (some x)).set j (some (.lst ys)))) else none | _ => none) else none
  | none => none
section
variable {X : Cx} {O L : List Nat} {fr : Bool} {e : Expr} {F : Env → Option D} {k : Nat} {p1 p2 p3 p4 pos : Pos} {x y : Str}
theorem fs_star {i j : Nat} (hc : X.calm = true) (hN : X.N.Nodup) (hi : X.N[i]? = some x) (hx : Loc X.env.scope x) (hj : X.N[j]? = some y) (hy : Loc X.env.scope y) (h : FE X O e F)
    (hfx : X.fn x = true ∨ X.env.scope.names.lookup x = some .local := by first | exact .inl rfl | exact .inr rfl | assumption) (hfy : X.fn y = true ∨ X.env.scope.names.lookup y = some .local := by first | exact .inl rfl | exact .inr rfl | assumption)
    (hs : swapsWithSole [.Tuple [.Name x p1, .Starred (.Name y p2) p3] k p4] e pos.line X.env = pure false := by rfl) (hw : swappedStores [.Tuple [.Name x p1, .Starred (.Name y p2) p3] k p4] e X.env = pure none := by rfl)
    (h1 : (assignEach [.Tuple [.Name x p1, .Starred (.Name y p2) p3] k p4] X.env).map (·.2) = [assign (.Tuple [.Name x p1, .Starred (.Name y p2) p3] k p4) X.env] := by rfl)
    (hn : (assignEach [.Name x p1, .Starred (.Name y p2) p3] X.env).length = 2 := by rfl) (hst : (assignEach [.Name x p1, .Starred (.Name y p2) p3] X.env).findIdx? (·.1) = some 1 := by rfl)
    (q1 : (assignEach [.Name x p1, .Starred (.Name y p2) p3] X.env).map (·.2) = assign (.Name x p1) X.env :: (assignEach [.Starred (.Name y p2) p3] X.env).map (·.2) := by rfl)
    (q2 : (assignEach [.Starred (.Name y p2) p3] X.env).map (·.2) = assign (.Name y p2) X.env :: (assignEach [] X.env).map (·.2) := by rfl) :
    FS X fr L O ((O.filter (· != i)).filter (· != j)) (.Assign [.Tuple [.Name x p1, .Starred (.Name y p2) p3] k p4] e pos) (sStar i j F) := fun φ Hf0 H0 ρ σ Hf H out Dn S hF P => by
  unfold sStar at hF
  split at hF
  · rename_i d hd
    split at hF
    · rename_i hl
      split at hF
      · rename_i a ys hsq
        split at hF
        · rename_i hlen
          cases hF
          refine toS (ps_asg peW (pg_star hc (pgs_cons (pg_name hN hi hx hfx) (pgs_starred (pg_name hN hj hy hfy) pgs_nil q2) q1) hn hst) hs hw h1) (h φ Hf0 H0 ρ σ Hf H d _ S hd fun v Hf1 H1 g1 r1 => ?_)
          obtain ⟨l, vs, e1, q, r⟩ := r1.lst_f hl hsq
          cases r with
          | cons ra rr =>
            rename_i va vsa
            refine ⟨l, va, vsa, e1, g1.s.seq q, by rw [List.length_cons, ← rr.length]; exact hlen, fun D hD => ?_⟩
            refine ⟨_, _, rfl, ⟨_, _, rfl, ⟨rfl, ?_⟩⟩⟩
            have g2 : Gr Hf1 H1 (upd Hf1 D (.lst vsa)) (upd H1 D (.lst vsa)) := Gr.new g1.s hD
            have S2 := ((S.gr g1).gr g2)
            refine P _ _ _ (g1.trans g2).f ((S2.set i (ra.mono g2.f)).set j (.lst upd_same (rr.mono g2.f)))
        · cases hF
      · cases hF
    · cases hF
  · cases hF
end

/-! ### dicts of the module with text keys -/
/-- the module's name x stands for a dict that has at least these -/
structure TabAt (K : PySem.W.Frag) (w : World) (mg : Str → Option Value) (x : Str) (tb : List (Str × D)) : Prop where
  ok : ∃ (a : Addr) (es : Array DictEntry) (n : Nat), mg x = some (.ref a) ∧ KDict K w a es n ∧ ∀ q ∈ tb, ∃ u v, PySem.W.nsIn K a q.1 = some (some u) ∧ RelV v u ∧ RpK K q.2 v
def tabB (K : PySem.W.Frag) (x : Str) (tb : List (Str × D)) : Bool := match PySem.W.nsIn K mainGlobals x with
  | some (some (.ref a)) => decide (a = He.ga K x) && tb.all fun q => (match PySem.W.nsIn K a q.1 with | some (some u) => cB K q.2 u | _ => false)
  | _ => false
theorem tabB_ok {K : PySem.W.Frag} {w : World} {h : Heap} {mg : Str → Option Value} (X : K.In h) (G : h.Ns mainGlobals mg) {x : Str} {tb : List (Str × D)} (c : tabB K x tb = true) (t : ∃ es n, KDict K w (He.ga K x) es n) : TabAt K w mg x tb := by
  unfold tabB at c
  split at c
  · rename_i a ha
    rw [Bool.and_eq_true] at c
    have e := of_decide_eq_true c.1
    subst e
    obtain ⟨es, n, D⟩ := t
    refine ⟨_, es, n, PySem.W.mg_of X G ha, D, fun q hq => ?_⟩
    have c2 := List.all_eq_true.mp c.2 q hq
    split at c2
    · rename_i u hu
      obtain ⟨v, r1, r2⟩ := cB_ok c2
      exact ⟨u, v, hu, r1, r2⟩
    · cases c2
  · cases c
def tbGet (tb : List (Str × D)) (z : Str) : Option D := match tb.find? fun q => decide (q.1 = z) with | some q => some q.2 | none => none
theorem tbGet_mem {tb : List (Str × D)} {z : Str} {d : D} (h : tbGet tb z = some d) : (z, d) ∈ tb := by
  unfold tbGet at h
  split at h
  · rename_i q hq
    cases h
    have h1 := List.find?_some hq
    have : q.1 = z := of_decide_eq_true h1
    subst this
    exact List.mem_of_find?_eq_some hq
  · cases h
/-- d[key] -/
def tbItem (tb : List (Str × D)) : D → Option D | .str z => tbGet tb z | _ => none
/-- key in d (neg: not in) -/
def tbHas (tb : List (Str × D)) (neg : Bool) : D → Option D | .str z => (match tbGet tb z with | some _ => some (.bl (!neg)) | none => none) | _ => none
section
variable {X : Cx} {O : List Nat} {e : Expr} {F : Env → Option D} {x : Str} {p pos : Pos} {tb : List (Str × D)}
theorem ft_tbNotIn (T : TabAt X.K X.w X.mg x tb) (hg : Gl X x) (h : FE X O e F) (hd : (x == ("__debug__" : Str)) = false := by decide +kernel) (hm : behindInMarks .NotIn (.Name x p) = false := by with_unfolding_all rfl) : FT X O (.Compare e [.NotIn] [.Name x p] pos) (tB blD (e1 (tbHas tb true) F)) := by
  obtain ⟨a, es, n, h1, D, hk⟩ := T.ok
  intro φ Hf0 H0 ρ σ Hf H c Q S hF k
  obtain ⟨d, hd', hc⟩ := tB_some hF
  obtain ⟨y, hy, h2⟩ := e1_some hd'
  unfold tbHas at h2
  split at h2
  · rename_i z
    split at h2
    · rename_i d0 hz
      cases h2
      cases hc
      obtain ⟨u, v, k1, _, _⟩ := hk _ (tbGet_mem hz)
      refine toT (pt_cmpR (op_notIn_kd D) peW (pe_glob hg h1 (v := .ref a) rfl hd) hm) ?_
      refine h φ Hf0 H0 ρ σ Hf H _ _ S hy fun v1 Hf1 H1 g1 r1 => ?_
      cases r1
      exact ⟨z, some u, rfl, rfl, k1, _, rfl, k Hf1 H1 g1⟩
    · cases h2
  · cases h2
theorem fe_tbItem (T : TabAt X.K X.w X.mg x tb) (hg : Gl X x) (h : FE X O e F) (hd : (x == ("__debug__" : Str)) = false := by decide +kernel) (hs : PlainIx e) : FE X O (.Subscript (.Name x p) e pos) (e1 (tbItem tb) F) := by
  obtain ⟨a, es, n, h1, D, hk⟩ := T.ok
  intro φ Hf0 H0 ρ σ Hf H d Q S hF k
  obtain ⟨y, hy, h2⟩ := e1_some hF
  unfold tbItem at h2
  split at h2
  · rename_i z
    obtain ⟨u, v, k1, k2, k3⟩ := hk _ (tbGet_mem h2)
    refine toE (pe_ix ix_kdict (pe_glob hg h1 (v := .ref a) rfl hd) peW hs) ?_
    refine h φ Hf0 H0 ρ σ Hf H _ _ S hy fun v1 Hf1 H1 g1 r1 => ?_
    cases r1
    exact ⟨a, z, v, rfl, rfl, ⟨es, n, u, D.at_, D.lit, k1, k2⟩, k v Hf1 H1 g1 (k3 φ Hf1)⟩
  · cases h2
end

/-! ### the head's facts, one more Bool, and tables -/
abbrev AlG : Type := (He.AlD × Bool) × List (Option (List (Option (Str × Int))))
def obsG (n : Nat) (fa : List He.Fa) (fn : List He.DefD) (ex : PySem.W.Frag → Bool) (ts : List He.Tab) (g : Addr → Option Obj) : AlG := ((He.obsD fa fn (He.frG g (He.asD g n)), ex (He.frG g (He.asD g n))), ts.map fun t => He.dicW (He.frG g (He.asD g n)) (t.1 (He.frG g (He.asD g n))))
def SaysG (fa : List He.Fa) (fn : List He.DefD) (ex : PySem.W.Frag → Bool) (ts : List He.Tab) (w : World) (K : PySem.W.Frag) : Prop := (He.SaysD fa fn K ∧ ex K = true) ∧ (ts.map fun t => He.dicW K (t.1 K)) = ts.map fun t => some (He.keysIn w.params t.2)
def hookG (n : Nat) (fa : List He.Fa) (fn : List He.DefD) (ex : PySem.W.Frag → Bool) (ts : List He.Tab) : PySem.W.Hook where
  α := AlG
  obs := fun s => obsG n fa fn ex ts s.heap.get?
  val := fun w => ((He.valD fn, true), ts.map fun t => some (He.keysIn w.params t.2))
  says := fun w h => ∃ K : PySem.W.Frag, K.In h ∧ SaysG fa fn ex ts w K
  of := fun w _ e => ⟨_, He.frG_in, ⟨congrArg (fun z : AlG => z.1.1) e, congrArg (fun z : AlG => z.1.2) e⟩, (congrArg (fun z : AlG => z.2) e : _ = ts.map fun t => some (He.keysIn w.params t.2))⟩
  keeps := fun _ _ _ ⟨K, hK, c⟩ k => ⟨K, PySem.W.Frag.In.keeps hK k, c⟩
theorem obsG_eq {n : Nat} {fa : List He.Fa} {fn : List He.DefD} {ex : PySem.W.Frag → Bool} {ts : List He.Tab} {g : Addr → Option Obj} {s : Shared} (h : ∀ a, g a = s.heap.get? a) : obsG n fa fn ex ts g = (hookG n fa fn ex ts).obs s := by
  have e : g = s.heap.get? := funext h
  rw [e] <;> rfl
theorem tab_of {fa : List He.Fa} {fn : List He.DefD} {ex : PySem.W.Frag → Bool} {ts : List He.Tab} {w : World} {K : PySem.W.Frag} (c : SaysG fa fn ex ts w K) (i : Nat) {t : He.Tab} (h : ts[i]? = some t := by rfl) : ∃ es n, KDict K w (t.1 K) es n := by
  have e2 : (ts.map fun t => He.dicW K (t.1 K))[i]? = (ts.map fun t => some (He.keysIn w.params t.2))[i]? := by rw [c.2]
  rw [List.getElem?_map, List.getElem?_map, h] at e2
  exact He.dicW_ok (Option.some.inj e2)
end FL
namespace FL
open PySem PySem.Spec L2

/-! ### objects that change -/
/-- an object as it stands: its class, its attributes -/
inductive Kd where
  | ins | lst | dic
  deriving DecidableEq
/-- .. an instance: its class, its attributes' names and values; a list: its items; a dict: its keys, its values -/
structure Ob where
  k : Kd
  c : Str
  fs : List Str
  xs : List D
def Ext (φ φ' : Nat → Option Addr) : Prop := ∀ i a, φ i = some a → φ' i = some a
theorem Ext.refl (φ : Nat → Option Addr) : Ext φ φ := fun _ _ h => h
theorem Ext.trans {φ φ1 φ2 : Nat → Option Addr} (a : Ext φ φ1) (b : Ext φ1 φ2) : Ext φ φ2 := fun i x h => b i x (a i x h)
section
variable {K : PySem.W.Frag} {φ φ' : Nat → Option Addr} {H : Hp}
mutual
theorem Rp.ext (e : Ext φ φ') : ∀ {d : D} {v : V}, Rp K φ H d v → Rp K φ' H d v
  | _, _, .non => .non
  | _, _, .bl b => .bl b
  | _, _, .int i => .int i
  | _, _, .str x => .str x
  | _, _, .tup s r => .tup s (RpAll.ext e r)
  | _, _, .lst s r => .lst s (RpAll.ext e r)
  | _, _, .klst s r => .klst s (RpAll.ext e r)
  | _, _, .obj h => .obj (e _ _ h)
  | _, _, .ins s l r => .ins s l (RpAll.ext e r)
  | _, _, .dct s l r => .dct s l (RpAll.ext e r)
theorem RpAll.ext (e : Ext φ φ') : ∀ {ds : List D} {vs : List V}, RpAll K φ H ds vs → RpAll K φ' H ds vs
  | _, _, .nil => .nil
  | _, _, .cons r t => .cons (r.ext e) (RpAll.ext e t)
end
end
/-! no object as data in it -/
mutual
def noIns : D → Bool
  | .tup xs => noInss xs | .lst _ => false | .klst _ => false | .ins _ _ _ => false | .dct _ _ => false | _ => true
def noInss : List D → Bool
  | [] => true
  | d :: ds => noIns d && noInss ds
end
section
variable {K : PySem.W.Frag} {φ : Nat → Option Addr} {H H' : Hp}
/-- the heap without objects: what is data stands -/
theorem SqT_cut (k : ∀ a o, H a = some o → ((∃ xs, o = .tup xs) ∨ ∃ q u, o = .frz q u) → H' a = some o) {a : Addr} {xs : List V} (h : SqT K H a xs) : SqT K H' a xs := by
  rcases h with (h | ⟨o, h⟩) | h
  · exact .inl (.inl (k _ _ h (.inl ⟨_, rfl⟩)))
  · exact .inl (.inr ⟨o, k _ _ h (.inr ⟨_, _, rfl⟩)⟩)
  · exact .inr h
mutual
theorem Rp.cut (k : ∀ a o, H a = some o → ((∃ xs, o = .tup xs) ∨ ∃ q u, o = .frz q u) → H' a = some o) : ∀ {d : D} {v : V}, noIns d = true → Rp K φ H d v → Rp K φ H' d v
  | _, _, _, .non => .non
  | _, _, _, .bl b => .bl b
  | _, _, _, .int i => .int i
  | _, _, _, .str x => .str x
  | .tup _, _, h, .tup s r => .tup (SqT_cut k s) (RpAll.cut k (by simpa [noIns] using h) r)
  | .lst _, _, h, .lst _ _ => by simp [noIns] at h
  | .klst _, _, h, .klst _ _ => by simp [noIns] at h
  | _, _, _, .obj h => .obj h
  | .ins _ _ _, _, h, .ins _ _ _ => by simp [noIns] at h
  | .dct _ _, _, h, .dct _ _ _ => by simp [noIns] at h
theorem RpAll.cut (k : ∀ a o, H a = some o → ((∃ xs, o = .tup xs) ∨ ∃ q u, o = .frz q u) → H' a = some o) : ∀ {ds : List D} {vs : List V}, noInss ds = true → RpAll K φ H ds vs → RpAll K φ H' ds vs
  | [], _, _, .nil => .nil
  | _ :: _, _, h, .cons r t => by
    have h' := Bool.and_eq_true_iff.mp (show (noIns _ && noInss _) = true from h)
    exact .cons (Rp.cut k h'.1 r) (RpAll.cut k h'.2 t)
end
end
/-- an object stands at a -/
def ObAt (φ : Nat → Option Addr) (S : List Ob) (a : Addr) : Prop := ∃ i, i < S.length ∧ φ i = some a
/-- what stands at an object's address -/
def OAt (K : PySem.W.Frag) (φ : Nat → Option Addr) (Hf : Hp) (o : Ob) (x : Option HO) : Prop := ∃ vs, RpAll K φ Hf o.xs vs ∧ match o.k with
  | .ins => o.fs.length = vs.length ∧ ∃ dx, x = some (.ins (He.ga K o.c) dx (o.fs.zip vs))
  | .lst => x = some (.lst vs)
  | .dic => o.fs.length = vs.length ∧ x = some (.dK ((o.fs.map Sum.inr).zip vs))
theorem OAt.mk_ins {K : PySem.W.Frag} {φ : Nat → Option Addr} {Hf : Hp} {c : Str} {fs : List Str} {xs : List D} {vs : List V} {dx : Addr} {x : Option HO} (h : x = some (.ins (He.ga K c) dx (fs.zip vs))) (l : fs.length = vs.length) (r : RpAll K φ Hf xs vs) : OAt K φ Hf ⟨.ins, c, fs, xs⟩ x := ⟨vs, r, l, dx, h⟩
theorem OAt.ins {K : PySem.W.Frag} {φ : Nat → Option Addr} {Hf : Hp} {o : Ob} {x : Option HO} (h : OAt K φ Hf o x) (hk : o.k = .ins) : ∃ dx vs, x = some (.ins (He.ga K o.c) dx (o.fs.zip vs)) ∧ o.fs.length = vs.length ∧ RpAll K φ Hf o.xs vs := by
  obtain ⟨vs, r, q⟩ := h
  rw [hk] at q
  obtain ⟨l, dx, e⟩ := q
  exact ⟨dx, vs, e, l, r⟩
theorem OAt.some {K : PySem.W.Frag} {φ : Nat → Option Addr} {Hf : Hp} {o : Ob} {x : Option HO} (h : OAt K φ Hf o x) : ∃ u, x = Option.some u ∧ (∀ xs, u ≠ .tup xs) ∧ ∀ q w, u ≠ .frz q w := by
  obtain ⟨vs, _, q⟩ := h
  split at q
  · obtain ⟨_, dx, e⟩ := q; exact ⟨_, e, fun _ z => (nomatch z), fun _ _ z => (nomatch z)⟩
  · exact ⟨_, q, fun _ z => (nomatch z), fun _ _ z => (nomatch z)⟩
  · exact ⟨_, q.2, fun _ z => (nomatch z), fun _ _ z => (nomatch z)⟩
theorem OAt.mono {K : PySem.W.Frag} {φ φ' : Nat → Option Addr} {Hf Hf' : Hp} {o : Ob} {x : Option HO} (h : OAt K φ Hf o x) (e : Ext φ φ') (s : Same Hf Hf') : OAt K φ' Hf' o x := let ⟨vs, r, q⟩ := h; ⟨vs, (RpAll.ext e r).mono s, q⟩
structure Cells (K : PySem.W.Frag) (φ : Nat → Option Addr) (Hf H : Hp) (S : List Ob) : Prop where
  at_ : ∀ i o, S[i]? = some o → ∃ a, φ i = some a ∧ Hf a = none ∧ OAt K φ Hf o (H a)
  inj : ∀ i j a, φ i = some a → φ j = some a → i = j
  out : ∀ i, S.length ≤ i → φ i = none
theorem Cells.get {K : PySem.W.Frag} {φ : Nat → Option Addr} {Hf H : Hp} {S : List Ob} (c : Cells K φ Hf H S) {a : Addr} (h : ObAt φ S a) : ∃ u, H a = some u ∧ Hf a = none ∧ (∀ xs, u ≠ .tup xs) ∧ ∀ q w, u ≠ .frz q w := by
  obtain ⟨i, hi, e⟩ := h
  obtain ⟨a', e', q1, q2⟩ := c.at_ i S[i] (List.getElem?_eq_getElem hi)
  rw [e] at e'
  cases e'
  obtain ⟨u, z1, z2⟩ := q2.some
  exact ⟨u, z1, q1, z2⟩
open Classical in
/-- what a statement must let stand: the objects, what the caller has (B), what is fixed for good -/
noncomputable def bas (φ : Nat → Option Addr) (S : List Ob) (B Hf H : Hp) : Hp := fun a => if ObAt φ S a then H a else match B a with | some o => some o | none => Hf a
open Classical in
/-- all objects fixed, as they stand -/
noncomputable def fzc (φ : Nat → Option Addr) (S : List Ob) (Hf H : Hp) : Hp := fun a => if ObAt φ S a then H a else Hf a
open Classical in
noncomputable def ofc (φ : Nat → Option Addr) (S : List Ob) (Hf : Hp) : Hp := fun a => if ObAt φ S a then none else Hf a
section
variable {φ : Nat → Option Addr} {S : List Ob} {B Hf H : Hp} {a : Addr}
theorem bas_at (h : ObAt φ S a) : bas φ S B Hf H a = H a := by unfold bas; rw [if_pos h]
theorem bas_no (h : ¬ ObAt φ S a) : bas φ S B Hf H a = (match B a with | some o => some o | none => Hf a) := by unfold bas; rw [if_neg h]
theorem fzc_at (h : ObAt φ S a) : fzc φ S Hf H a = H a := by unfold fzc; rw [if_pos h]
theorem fzc_no (h : ¬ ObAt φ S a) : fzc φ S Hf H a = Hf a := by unfold fzc; rw [if_neg h]
theorem ofc_at (h : ObAt φ S a) : ofc φ S Hf a = none := by unfold ofc; rw [if_pos h]
theorem ofc_no (h : ¬ ObAt φ S a) : ofc φ S Hf a = Hf a := by unfold ofc; rw [if_neg h]
end
/-- the state: B, what the caller has and is no object that may change; Bf: what of it was fixed -/
structure MSR (K : PySem.W.Frag) (φ : Nat → Option Addr) (B Bf : Hp) (O : List Nat) (ρ : Env) (S : List Ob) (σ : L2.St) (Hf H : Hp) : Prop where
  sr : SR K φ Hf (bas φ S B Hf H) O ρ σ Hf H
  cl : Cells K φ Hf H S
  fb : Same B H
  fn : ∀ a o, B a = some o → Bf a = none → Hf a = none
  nb : ∀ a, ObAt φ S a → B a = none
section
variable {K : PySem.W.Frag} {φ : Nat → Option Addr} {B Bf : Hp} {O O' : List Nat} {ρ ρ' : Env} {S : List Ob} {σ σ' : L2.St} {Hf H Hf' H' : Hp}
theorem MSR.sub (M : MSR K φ B Bf O ρ S σ Hf H) : Same Hf H := M.sr.sub
/-- a statement that changes no object -/
theorem MSR.step (M : MSR K φ B Bf O ρ S σ Hf H) (T : SR K φ Hf (bas φ S B Hf H) O' ρ' σ' Hf' H') : MSR K φ B Bf O' ρ' S σ' Hf' H' := by
  have keep : ∀ a, ObAt φ S a → H' a = H a ∧ Hf' a = none := fun a h => by
    obtain ⟨u, e1, e2, _⟩ := M.cl.get h
    have e3 : bas φ S B Hf H a = some _ := (bas_at h).trans e1
    exact ⟨(T.gh _ _ e3).trans e1.symm, T.gn a _ e3 e2⟩
  refine ⟨⟨T.len, T.sub, Same.refl _, fun a o e => ?_, fun _ _ _ z => z, T.val, fun i d e m => ?_, T.ne⟩, ⟨fun i o e => ?_, M.cl.inj, M.cl.out⟩, fun a o e => ?_, fun a o e1 e2 => ?_, M.nb⟩
  · by_cases h : ObAt φ S a
    · rw [bas_at h] at e; exact e
    · rw [bas_no h] at e
      split at e
      · rename_i o' hb
        cases e
        refine T.gh _ _ ?_
        rw [bas_no h, hb]
      · exact T.sub _ _ e
  · obtain ⟨a, xs, vs, q1, q2, q3, q4, q5, r⟩ := T.own i d e m
    refine ⟨a, xs, vs, q1, q2, q3, q4, ?_, r⟩
    have h : ¬ ObAt φ S a := fun h => by
      obtain ⟨_, e1, _⟩ := M.cl.get h
      rw [bas_at h, e1] at q5; cases q5
    rw [bas_no h] at q5 ⊢
    split at q5
    · cases q5
    · exact q4
  · obtain ⟨a, e0, e1, e2⟩ := M.cl.at_ i o e
    have h : ObAt φ S a := ⟨i, (List.getElem?_eq_some_iff.mp e).1, e0⟩
    obtain ⟨k1, k2⟩ := keep a h
    exact ⟨a, e0, k2, by rw [k1]; exact e2.mono (.refl φ) T.gf⟩
  · refine T.gh _ _ ?_
    have h : ¬ ObAt φ S a := fun h => by rw [M.nb a h] at e; cases e
    rw [bas_no h, e]
  · have h : ¬ ObAt φ S a := fun h => by rw [M.nb a h] at e1; cases e1
    have e3 : bas φ S B Hf H a = some o := by rw [bas_no h, e1]
    exact T.gn a o e3 (M.fn a o e1 e2)
/-! ### a snapshot -/
/-- an object's name, shown as data -/
def shw (S : List Ob) : Option D → Option D
  | some (.obj i) => (match S[i]? with | some ⟨.ins, c, fs, xs⟩ => some (.ins c fs xs) | some ⟨.lst, _, _, xs⟩ => some (.lst xs) | _ => some (.obj i))
  | d => d
theorem MSR.snap (M : MSR K φ B Bf O ρ S σ Hf H) : SR K φ (fzc φ S Hf H) (bas φ S B (fzc φ S Hf H) H) O (ρ.map (shw S)) σ (fzc φ S Hf H) H := by
  have s1 : Same Hf (fzc φ S Hf H) := fun a o e => by
    by_cases h : ObAt φ S a
    · obtain ⟨_, _, e2, _⟩ := M.cl.get h
      rw [e2] at e; cases e
    · rw [fzc_no h]; exact e
  have s2 : Same (fzc φ S Hf H) H := fun a o e => by
    by_cases h : ObAt φ S a
    · rw [fzc_at h] at e; exact e
    · rw [fzc_no h] at e; exact M.sub _ _ e
  have get : ∀ i, (ρ.map (shw S))[i]? = (ρ[i]?).map (shw S) := fun i => List.getElem?_map
  refine ⟨by rw [List.length_map]; exact M.sr.len, s2, Same.refl _, fun a o e => ?_, fun _ _ _ z => z, fun i d e n => ?_, fun i d e m => ?_, fun i j d e a h1 h2 m1 m2 hne q1 => ?_⟩
  · by_cases h : ObAt φ S a
    · rw [bas_at h] at e; exact e
    · rw [bas_no h] at e
      split at e
      · rename_i o' hb
        cases e
        exact M.fb _ _ hb
      · exact s2 _ _ e
  · rw [get] at e
    cases hq : ρ[i]? with
    | none => rw [hq] at e; cases e
    | some od =>
      rw [hq] at e
      have e' : shw S od = some d := Option.some.inj e
      clear e
      cases od with
      | none => cases e'
      | some d0 =>
        obtain ⟨v, e1, r⟩ := M.sr.val i d0 hq n
        refine ⟨v, e1, ?_⟩
        unfold shw at e'
        split at e'
        · rename_i k hk
          cases hk
          cases r with
          | obj h =>
            split at e'
            · rename_i c fs xs ho
              cases e'
              obtain ⟨a, q1, q2, q3⟩ := M.cl.at_ _ _ ho
              rw [h] at q1
              cases q1
              obtain ⟨dx, vs, z1, z2, z3⟩ := q3.ins rfl
              exact .ins ((fzc_at ⟨_, (List.getElem?_eq_some_iff.mp ho).1, h⟩).trans z1) z2 (z3.mono s1)
            · rename_i xs ho
              cases e'
              obtain ⟨a, q1, q2, vs, z1, z2⟩ := M.cl.at_ _ _ ho
              rw [h] at q1
              cases q1
              exact .lst ((fzc_at ⟨_, (List.getElem?_eq_some_iff.mp ho).1, h⟩).trans z2) (z1.mono s1)
            · cases e'
              exact .obj h
        · cases e'
          exact r.mono s1
  · rw [get] at e
    cases hq : ρ[i]? with
    | none => rw [hq] at e; cases e
    | some od =>
      rw [hq] at e
      have e' : shw S od = some d := Option.some.inj e
      clear e
      cases od with
      | none => cases e'
      | some d0 =>
        obtain ⟨a, xs, vs, q1, q2, q3, q4, q5, r⟩ := M.sr.own i d0 hq m
        subst q1
        cases e'
        have h : ¬ ObAt φ S a := fun h => by
          rw [bas_at h, q3] at q5; cases q5
        refine ⟨a, xs, vs, rfl, q2, q3, (fzc_no h).trans q4, ?_, r.mono s1⟩
        rw [bas_no h] at q5 ⊢
        split at q5
        · cases q5
        · exact (fzc_no h).trans q4
  · rw [get] at h1 h2
    have f : ∀ i d, (ρ[i]?).map (shw S) = some (some d) → i ∈ O → ∃ d0, ρ[i]? = some (some d0) := fun i d e m => by
      cases hq : ρ[i]? with
      | none => rw [hq] at e; cases e
      | some od =>
        cases od with
        | none => rw [hq] at e; cases e
        | some d0 => exact ⟨d0, rfl⟩
    obtain ⟨d1, k1⟩ := f i d h1 m1
    obtain ⟨d2, k2⟩ := f j e h2 m2
    exact M.sr.ne i j d1 d2 a k1 k2 m1 m2 hne q1
/-- behind a look: the objects are not fixed any more -/
theorem MSR.back (M : MSR K φ B Bf O ρ S σ Hf H) (g : Gr (fzc φ S Hf H) H Hf' H') : MSR K φ B Bf O ρ S σ (ofc φ S Hf') H' ∧ Same Hf (ofc φ S Hf') := by
  have s1 : Same Hf (ofc φ S Hf') := fun a o e => by
    have h : ¬ ObAt φ S a := fun h => by
      obtain ⟨_, _, e2, _⟩ := M.cl.get h
      rw [e2] at e; cases e
    rw [ofc_no h]
    exact g.f _ _ ((fzc_no h).trans e)
  have s2 : Same (ofc φ S Hf') H' := fun a o e => by
    by_cases h : ObAt φ S a
    · rw [ofc_at h] at e; cases e
    · rw [ofc_no h] at e; exact g.s _ _ e
  refine ⟨?_, s1⟩
  have T : SR K φ Hf (bas φ S B Hf H) O ρ σ (ofc φ S Hf') H' := by
    refine ⟨M.sr.len, s2, s1, fun a o e => ?_, fun a o e1 e2 => ?_, fun i d e n => ?_, fun i d e m => ?_, M.sr.ne⟩
    · exact g.h _ _ (M.sr.gh _ _ e)
    · by_cases h : ObAt φ S a
      · exact ofc_at h
      · rw [ofc_no h]
        exact g.n a o (M.sr.gh _ _ e1) ((fzc_no h).trans e2)
    · obtain ⟨v, e1, r⟩ := M.sr.val i d e n
      exact ⟨v, e1, r.mono s1⟩
    · obtain ⟨a, xs, vs, q1, q2, q3, q4, q5, r⟩ := M.sr.own i d e m
      have h : ¬ ObAt φ S a := fun h => by
        rw [bas_at h, q3] at q5; cases q5
      exact ⟨a, xs, vs, q1, q2, g.h _ _ q3, (ofc_no h).trans (g.n a _ q3 ((fzc_no h).trans q4)), q5, r.mono s1⟩
  exact M.step T
end
end FL
namespace FL
open PySem PySem.Spec L2

/-! ### what changes objects: expressions, tests, statements -/
def ME (X : Cx) (O : List Nat) (e : Expr) (F : Env → List Ob → Option (D × List Ob)) : Prop :=
  ∀ (φ : Nat → Option Addr) (B Bf : Hp) (ρ : Env) (S : List Ob) (σ : L2.St) (Hf H : Hp) (d : D) (S' : List Ob) (Q : VK), MSR X.K φ B Bf O ρ S σ Hf H → F ρ S = some (d, S') →
    (∀ φ' v Hf' H', Ext φ φ' → Same Hf Hf' → MSR X.K φ' B Bf O ρ S' σ Hf' H' → Rp X.K φ' Hf' d v → Q v H') → wE X e σ H Q
def MT (X : Cx) (O : List Nat) (e : Expr) (F : Env → List Ob → Option (Bool × List Ob)) : Prop :=
  ∀ (φ : Nat → Option Addr) (B Bf : Hp) (ρ : Env) (S : List Ob) (σ : L2.St) (Hf H : Hp) (b : Bool) (S' : List Ob) (Q : Bool → Hp → Prop), MSR X.K φ B Bf O ρ S σ Hf H → F ρ S = some (b, S') →
    (∀ φ' Hf' H', Ext φ φ' → Same Hf Hf' → MSR X.K φ' B Bf O ρ S' σ Hf' H' → Q b H') → wT X e σ H Q
inductive MOut where
  | nx (ρ : Env) (S : List Ob) | rt (d : D) (S : List Ob)
/-- behind a def: the objects, what the caller has -/
structure MDone (K : PySem.W.Frag) (φ : Nat → Option Addr) (B Bf : Hp) (S : List Ob) (Hf H : Hp) : Prop where
  sub : Same Hf H
  cl : Cells K φ Hf H S
  fb : Same B H
  fn : ∀ a o, B a = some o → Bf a = none → Hf a = none
  nb : ∀ a, ObAt φ S a → B a = none
def MPost (K : PySem.W.Frag) (φ : Nat → Option Addr) (B Bf : Hp) (O : List Nat) (Hf : Hp) (Dn : Ends) : MOut → Prop
  | .nx ρ S => ∀ φ' σ' Hf' H', Ext φ φ' → Same Hf Hf' → MSR K φ' B Bf O ρ S σ' Hf' H' → Dn.nx σ' H'
  | .rt d S => ∀ φ' v Hf' H', Ext φ φ' → Same Hf Hf' → MDone K φ' B Bf S Hf' H' → Rp K φ' Hf' d v → Dn.rt v H'
section
variable {K : PySem.W.Frag} {φ φ1 : Nat → Option Addr} {B Bf : Hp} {O : List Nat} {ρ : Env} {S : List Ob} {σ : L2.St} {Hf H Hf1 : Hp} {Dn : Ends}
theorem MPost.mono (e : Ext φ φ1) (s : Same Hf Hf1) : ∀ {out : MOut}, MPost K φ B Bf O Hf Dn out → MPost K φ1 B Bf O Hf1 Dn out
  | .nx _ _, h => fun φ' σ' Hf' H' e' s' => h φ' σ' Hf' H' (e.trans e') (s.trans s')
  | .rt _ _, h => fun φ' v Hf' H' e' s' => h φ' v Hf' H' (e.trans e') (s.trans s')
theorem MSR.done (M : MSR K φ B Bf O ρ S σ Hf H) : MDone K φ B Bf S Hf H := ⟨M.sub, M.cl, M.fb, M.fn, M.nb⟩
theorem MSR.set (M : MSR K φ B Bf O ρ S σ Hf H) (i : Nat) {d : D} {v : V} (r : Rp K φ Hf d v) : MSR K φ B Bf (O.filter (· != i)) (ρ.set i (some d)) S (σ.set i (some v)) Hf H := M.step (M.sr.set i r)
end
def MS (X : Cx) (O O' : List Nat) (st : Stmt) (G : Env → List Ob → Option MOut) : Prop :=
  ∀ (φ : Nat → Option Addr) (B Bf : Hp) (ρ : Env) (S : List Ob) (σ : L2.St) (Hf H : Hp) (out : MOut) (Dn : Ends), MSR X.K φ B Bf O ρ S σ Hf H → G ρ S = some out → MPost X.K φ B Bf O' Hf Dn out → wS X st Dn σ H
def MSs (X : Cx) (O O' : List Nat) (sts : List Stmt) (G : Env → List Ob → Option MOut) : Prop :=
  ∀ (φ : Nat → Option Addr) (B Bf : Hp) (ρ : Env) (S : List Ob) (σ : L2.St) (Hf H : Hp) (out : MOut) (Dn : Ends), MSR X.K φ B Bf O ρ S σ Hf H → G ρ S = some out → MPost X.K φ B Bf O' Hf Dn out → wSs X sts Dn σ H
/-! the mirror's words -/
def qSnap (F : Env → Option D) : Env → List Ob → Option (D × List Ob) := fun ρ S => match F (ρ.map (shw S)) with | some d => if noIns d = true then some (d, S) else none | none => none
def qTst (T : Env → Option Bool) : Env → List Ob → Option (Bool × List Ob) := fun ρ S => match T (ρ.map (shw S)) with | some b => some (b, S) | none => none
def mNil : Env → List Ob → Option MOut := fun ρ S => some (.nx ρ S)
def mSeq (F G : Env → List Ob → Option MOut) : Env → List Ob → Option MOut := fun ρ S => match F ρ S with | some (.nx ρ' S') => G ρ' S' | o => o
def mPure (G : Env → Option Out) : Env → List Ob → Option MOut := fun ρ S => match G ρ with | some (.nx ρ') => some (.nx ρ' S) | some (.rt d) => some (.rt d S) | _ => none
def mSet (i : Nat) (F : Env → List Ob → Option (D × List Ob)) : Env → List Ob → Option MOut := fun ρ S => match F ρ S with | some (d, S') => some (.nx (ρ.set i (some d)) S') | none => none
def mRet (F : Env → List Ob → Option (D × List Ob)) : Env → List Ob → Option MOut := fun ρ S => match F ρ S with | some (d, S') => some (.rt d S') | none => none
def mIf (T : Env → List Ob → Option (Bool × List Ob)) (F G : Env → List Ob → Option MOut) : Env → List Ob → Option MOut := fun ρ S => match T ρ S with | some (true, S') => F ρ S' | some (false, S') => G ρ S' | none => none
def mForget (vs : List Nat) (G : Env → List Ob → Option MOut) : Env → List Ob → Option MOut := fun ρ S => G (wipeE ρ vs) S
section
variable {X : Cx} {O O' O1 : List Nat} {e c : Expr} {st : Stmt} {sts a b : List Stmt} {F : Env → Option D} {T : Env → Option Bool} {p2 pos : Pos} {ME1 : Env → List Ob → Option (D × List Ob)} {MT1 : Env → List Ob → Option (Bool × List Ob)} {G G2 : Env → List Ob → Option MOut} {Gp : Env → Option Out}
theorem me_snap (h : FE X O e F) : ME X O e (qSnap F) := fun φ B Bf ρ S σ Hf H d S' Q M hF k => by
  unfold qSnap at hF
  split at hF
  · rename_i d' hd
    split at hF
    · rename_i hn
      cases hF
      refine h φ _ _ _ σ _ H d _ M.snap hd fun v Hf1 H1 g r => ?_
      obtain ⟨M1, s1⟩ := M.back g
      refine k φ v _ H1 (.refl φ) s1 M1 (r.cut (fun q o e1 e2 => ?_) hn)
      by_cases hq : ObAt φ S q
      · obtain ⟨u, e3, _, n1, n2⟩ := M.cl.get hq
        have := g.f _ _ ((fzc_at hq).trans e3)
        rw [e1] at this
        cases this
        rcases e2 with ⟨xs, z⟩ | ⟨w, u, z⟩
        · exact absurd z (n1 xs)
        · exact absurd z (n2 w u)
      · rw [ofc_no hq]; exact e1
    · cases hF
  · cases hF
theorem mt_snap (h : FT X O c T) : MT X O c (qTst T) := fun φ B Bf ρ S σ Hf H d S' Q M hF k => by
  unfold qTst at hF
  split at hF
  · rename_i b' hb
    cases hF
    refine h φ _ _ _ σ _ H d _ M.snap hb fun Hf1 H1 g => ?_
    obtain ⟨M1, s1⟩ := M.back g
    exact k φ _ H1 (.refl φ) s1 M1
  · cases hF
theorem mss_nil : MSs X O O [] mNil := fun φ B Bf ρ S σ Hf H out Dn M h P => by
  cases h
  exact toSs pss_nil (P φ σ Hf H (.refl φ) (Same.refl _) M)
theorem mss_cons (h : MS X O O1 st G) (t : MSs X O1 O' sts G2) : MSs X O O' (st :: sts) (mSeq G G2) := fun φ B Bf ρ S σ Hf H out Dn M hF P => by
  refine toSs (pss_cons psW pssW) ?_
  unfold mSeq at hF
  split at hF
  · rename_i ρ' S' h1
    exact h φ B Bf ρ S σ Hf H _ _ M h1 fun φ1 σ1 Hf1 H1 e1 s1 M1 => t φ1 B Bf ρ' S' σ1 Hf1 H1 out Dn M1 hF (P.mono e1 s1)
  · rename_i hne
    refine h φ B Bf ρ S σ Hf H out _ M hF ?_
    cases out with
    | nx ρ' S' => exact absurd hF (hne ρ' S')
    | rt d S' => exact P
theorem MSR.weak {K : PySem.W.Frag} {φ : Nat → Option Addr} {B Bf : Hp} {ρ : Env} {S : List Ob} {σ : L2.St} {Hf H : Hp} (M : MSR K φ B Bf O ρ S σ Hf H) (L : List Nat) (hL : L.all (O.contains ·) = true) : ∃ Hf1, Same Hf Hf1 ∧ MSR K φ B Bf L ρ S σ Hf1 H := by
  obtain ⟨Hf1, s1, S1⟩ := M.sr.weak L hL
  exact ⟨Hf1, s1, M.step S1⟩
theorem mss_to (h : MSs X O O1 sts G) (hL : O'.all (O1.contains ·) = true) : MSs X O O' sts G := fun φ B Bf ρ S σ Hf H out Dn M hF P => by
  refine h φ B Bf ρ S σ Hf H out Dn M hF ?_
  cases out with
  | nx ρ' S' => exact fun φ' σ' Hf' H' e' s' M' => let ⟨Hf2, s2, M2⟩ := M'.weak O' hL; P φ' σ' Hf2 H' e' (s'.trans s2) M2
  | rt d S' => exact P
theorem mss_forget (vs : List Nat) (h : MSs X O O' sts G) : MSs X O O' sts (mForget vs G) := fun φ B Bf ρ S σ Hf H out Dn M hF P => by
  have M' : MSR X.K φ B Bf O (wipeE ρ vs) S σ Hf H := by
    refine M.step ⟨by rw [wipeE_len]; exact M.sr.len, M.sr.sub, M.sr.gf, M.sr.gh, M.sr.gn, fun i d e n => ?_, fun i d e m => ?_, fun i j d e a h1 h2 m1 m2 hne q1 => ?_⟩
    · exact M.sr.val i d (wipeE_some e).1 n
    · exact M.sr.own i d (wipeE_some e).1 m
    · exact M.sr.ne i j d e a (wipeE_some h1).1 (wipeE_some h2).1 m1 m2 hne q1
  exact h φ B Bf _ S σ Hf H out Dn M' hF P
theorem ms_pure (h : FS X false [] O O' st Gp) : MS X O O' st (mPure Gp) := fun φ B Bf ρ S σ Hf H out Dn M hF P => by
  unfold mPure at hF
  split at hF
  · rename_i ρ' h1
    cases hF
    exact h φ _ _ ρ σ Hf H _ Dn M.sr h1 fun σ1 Hf1 H1 s1 S1 => P φ σ1 Hf1 H1 (.refl φ) s1 (M.step S1)
  · rename_i d h1
    cases hF
    refine h φ _ _ ρ σ Hf H _ Dn M.sr h1 fun v Hf1 H1 g r => ?_
    have S1 : SR X.K φ Hf (bas φ S B Hf H) [] ([] : Env) ([] : L2.St) Hf1 H1 := ⟨rfl, g.s, g.f, g.h, g.n, fun i d e n => (by simp at e), fun i d e m => (by simp at m), fun i j d e a h => (by simp at h)⟩
    exact P φ v Hf1 H1 (.refl φ) g.f (M.step S1).done r
  · cases hF
theorem ms_set {i : Nat} {x : Str} (hN : X.N.Nodup) (hi : X.N[i]? = some x) (hx : Loc X.env.scope x) (h : ME X O e ME1) (hs : swapsWith e (some (.Name x p2)) pos.line X.env = pure false := by rfl) (hf : X.fn x = true ∨ X.env.scope.names.lookup x = some .local := by first | exact .inl rfl | exact .inr rfl | assumption) :
    MS X O (O.filter (· != i)) (.Assign [.Name x p2] e pos) (mSet i ME1) := fun φ B Bf ρ S σ Hf H out Dn M hF P => by
  unfold mSet at hF
  split at hF
  · rename_i d S' hd
    cases hF
    exact toS (ps_set hN hi hx peW hs hf) (h φ B Bf ρ S σ Hf H d S' _ M hd fun φ1 v Hf1 H1 e1 s1 M1 r1 => P φ1 _ Hf1 H1 e1 s1 (M1.set i r1))
  · cases hF
theorem ms_ret (h : ME X O e ME1) : MS X O O' (.Return (some e) pos) (mRet ME1) := fun φ B Bf ρ S σ Hf H out Dn M hF P => by
  unfold mRet at hF
  split at hF
  · rename_i d S' hd
    cases hF
    exact toS (ps_ret peW) (h φ B Bf ρ S σ Hf H d S' _ M hd fun φ1 v Hf1 H1 e1 s1 M1 r1 => P φ1 v Hf1 H1 e1 s1 M1.done r1)
  · cases hF
theorem ms_if (hc : MT X O c MT1) (h1 : MSs X O O' a G) (h2 : MSs X O O' b G2) : MS X O O' (.If c a b pos) (mIf MT1 G G2) := fun φ B Bf ρ S σ Hf H out Dn M hF P => by
  refine toS (ps_if ptW pssW pssW) ?_
  unfold mIf at hF
  split at hF
  · rename_i S' hb
    exact hc φ B Bf ρ S σ Hf H true S' _ M hb fun φ1 Hf1 H1 e1 s1 M1 => iteT (h1 φ1 B Bf ρ S' σ Hf1 H1 out Dn M1 hF (P.mono e1 s1))
  · rename_i S' hb
    exact hc φ B Bf ρ S σ Hf H false S' _ M hb fun φ1 Hf1 H1 e1 s1 M1 => iteF (h2 φ1 B Bf ρ S' σ Hf1 H1 out Dn M1 hF (P.mono e1 s1))
  · cases hF
end
end FL
namespace FL
open PySem PySem.Spec L2

/-! ### behind a def, ahead of a def -/
section
variable {K : PySem.W.Frag} {φ φ1 : Nat → Option Addr} {B Bf : Hp} {O : List Nat} {ρ : Env} {S S1 : List Ob} {σ : L2.St} {Hf H Hf1 H1 : Hp}
theorem MDone.bas (D : MDone K φ B Bf S Hf H) : Same (bas φ S B Hf H) H := fun a o e => by
  by_cases h : ObAt φ S a
  · rw [bas_at h] at e; exact e
  · rw [bas_no h] at e
    split at e
    · rename_i o' hb
      cases e
      exact D.fb _ _ hb
    · exact D.sub _ _ e
theorem MDone.msr (D : MDone K φ B Bf S Hf H) (len : ρ.length = σ.length) (val : ∀ i d, ρ[i]? = some (some d) → i ∉ O → ∃ v, σ[i]? = some (some v) ∧ Rp K φ Hf d v)
    (own : ∀ i d, ρ[i]? = some (some d) → i ∈ O → ∃ a xs vs, d = .lst xs ∧ σ[i]? = some (some (.ref a)) ∧ H a = some (.lst vs) ∧ Hf a = none ∧ B a = none ∧ ¬ ObAt φ S a ∧ RpAll K φ Hf xs vs)
    (ne : ∀ i j d e a, ρ[i]? = some (some d) → ρ[j]? = some (some e) → i ∈ O → j ∈ O → i ≠ j → σ[i]? = some (some (.ref a)) → σ[j]? ≠ some (some (.ref a))) : MSR K φ B Bf O ρ S σ Hf H := by
  refine ⟨⟨len, D.sub, Same.refl _, D.bas, fun _ _ _ z => z, val, fun i d e m => ?_, ne⟩, D.cl, D.fb, D.fn, D.nb⟩
  obtain ⟨a, xs, vs, q1, q2, q3, q4, q5, q6, r⟩ := own i d e m
  refine ⟨a, xs, vs, q1, q2, q3, q4, ?_, r⟩
  rw [bas_no q6, q5]
  exact q4
theorem MSR.own (M : MSR K φ B Bf O ρ S σ Hf H) : ∀ i d, ρ[i]? = some (some d) → i ∈ O → ∃ a xs vs, d = .lst xs ∧ σ[i]? = some (some (.ref a)) ∧ H a = some (.lst vs) ∧ Hf a = none ∧ B a = none ∧ ¬ ObAt φ S a ∧ RpAll K φ Hf xs vs := fun i d e m => by
  obtain ⟨a, xs, vs, q1, q2, q3, q4, q5, r⟩ := M.sr.own i d e m
  have h : ¬ ObAt φ S a := fun h => by
    rw [bas_at h, q3] at q5; cases q5
  refine ⟨a, xs, vs, q1, q2, q3, q4, ?_, h, r⟩
  rw [bas_no h] at q5
  split at q5
  · cases q5
  · assumption
open Classical in
/-- what the caller has, for a def that is called -/
noncomputable def hid (φ : Nat → Option Addr) (S : List Ob) (H : Hp) : Hp := fun a => if ObAt φ S a then none else H a
theorem hid_at {a : Addr} (h : ObAt φ S a) : hid φ S H a = none := by unfold hid; rw [if_pos h]
theorem hid_no {a : Addr} (h : ¬ ObAt φ S a) : hid φ S H a = H a := by unfold hid; rw [if_neg h]
theorem MSR.hid (M : MSR K φ B Bf O ρ S σ Hf H) : MDone K φ (hid φ S H) Hf S Hf H := by
  refine ⟨M.sub, M.cl, fun a o e => ?_, fun _ _ _ z => z, fun a h => hid_at h⟩
  by_cases h : ObAt φ S a
  · rw [hid_at h] at e; cases e
  · rw [hid_no h] at e; exact e
/-- behind a def that changed objects -/
theorem MSR.called (M : MSR K φ B Bf O ρ S σ Hf H) (e : Ext φ φ1) (s : Same Hf Hf1) (D : MDone K φ1 (FL.hid φ S H) Hf S1 Hf1 H1) : MSR K φ1 B Bf O ρ S1 σ Hf1 H1 := by
  have hb : ∀ a o, B a = some o → FL.hid φ S H a = some o := fun a o q => by
    have h : ¬ ObAt φ S a := fun h => by rw [M.nb a h] at q; cases q
    rw [hid_no h]; exact M.fb _ _ q
  have D' : MDone K φ1 B Bf S1 Hf1 H1 := by
    refine ⟨D.sub, D.cl, fun a o q => D.fb _ _ (hb a o q), fun a o q1 q2 => D.fn a o (hb a o q1) (M.fn a o q1 q2), fun a h => ?_⟩
    have := D.nb a h
    cases hq : B a with
    | none => rfl
    | some o => rw [hb a o hq] at this; cases this
  refine D'.msr M.sr.len (fun i d q n => ?_) (fun i d q m => ?_) M.sr.ne
  · obtain ⟨v, e1, r⟩ := M.sr.val i d q n
    exact ⟨v, e1, (r.ext e).mono s⟩
  · obtain ⟨a, xs, vs, q1, q2, q3, q4, q5, q6, r⟩ := M.own i d q m
    have h3 : FL.hid φ S H a = some (.lst vs) := by rw [hid_no q6]; exact q3
    exact ⟨a, xs, vs, q1, q2, D.fb _ _ h3, D.fn _ _ h3 q4, q5, fun z => (by rw [D.nb a z] at h3; cases h3), (RpAll.ext e r).mono s⟩
/-! a new object -/
def nphi (φ : Nat → Option Addr) (n : Nat) (x : Addr) : Nat → Option Addr := fun i => if i = n then some x else φ i
theorem nphi_ext {n : Nat} {x : Addr} (h : φ n = none) : Ext φ (nphi φ n x) := fun i a q => by
  unfold nphi
  split
  · rename_i hi; subst hi; rw [h] at q; cases q
  · exact q
theorem MSR.add {o : Ob} {x : Addr} (M : MSR K φ B Bf O ρ S σ Hf H) (h : OAt K φ Hf o (H x)) (hx : Hf x = none) (hB : B x = none) (new : ∀ i, φ i ≠ some x) (hown : ∀ i d, ρ[i]? = some (some d) → i ∈ O → σ[i]? ≠ some (some (.ref x))) :
    Ext φ (nphi φ S.length x) ∧ MSR K (nphi φ S.length x) B Bf O ρ (S ++ [o]) σ Hf H := by
  have ex : Ext φ (nphi φ S.length x) := nphi_ext (M.cl.out _ (Nat.le_refl _))
  refine ⟨ex, ?_⟩
  have lt : ∀ i, i < S.length → nphi φ S.length x i = φ i := fun i hi => by unfold nphi; rw [if_neg (by omega)]
  have at1 : ∀ a, ObAt (nphi φ S.length x) (S ++ [o]) a → ObAt φ S a ∨ a = x := fun a ⟨i, hi, e⟩ => by
    rw [List.length_append] at hi
    by_cases h1 : i < S.length
    · rw [lt i h1] at e; exact .inl ⟨i, h1, e⟩
    · have : i = S.length := by simp at hi; omega
      subst this
      unfold nphi at e
      rw [if_pos rfl] at e
      cases e
      exact .inr rfl
  have D : MDone K (nphi φ S.length x) B Bf (S ++ [o]) Hf H := by
    refine ⟨M.sub, ⟨fun i o e => ?_, fun i j a e1 e2 => ?_, fun i hi => ?_⟩, M.fb, M.fn, fun a ha => ?_⟩
    · by_cases h1 : i < S.length
      · rw [List.getElem?_append_left h1] at e
        obtain ⟨a, q1, q2, q3⟩ := M.cl.at_ i _ e
        exact ⟨a, (lt i h1).trans q1, q2, q3.mono ex (Same.refl _)⟩
      · rw [List.getElem?_append_right (by omega)] at e
        have h2 : i = S.length := by
          have := (List.getElem?_eq_some_iff.mp e).1
          simp at this; omega
        subst h2
        rw [Nat.sub_self] at e
        cases e
        exact ⟨x, by unfold nphi; rw [if_pos rfl], hx, h.mono ex (Same.refl _)⟩
    · unfold nphi at e1 e2
      split at e1
      · cases e1
        split at e2
        · rename_i a b; rw [a, b]
        · exact absurd e2 (new _)
      · split at e2
        · cases e2; exact absurd e1 (new _)
        · exact M.cl.inj _ _ _ e1 e2
    · rw [List.length_append] at hi
      simp at hi
      unfold nphi
      rw [if_neg (by omega)]
      exact M.cl.out _ (by omega)
    · rcases at1 a ha with q | q
      · exact M.nb a q
      · rw [q]; exact hB
  refine D.msr M.sr.len (fun i d q n => ?_) (fun i d q m => ?_) M.sr.ne
  · obtain ⟨v, e1, r⟩ := M.sr.val i d q n
    exact ⟨v, e1, r.ext ex⟩
  · obtain ⟨a, xs, vs, q1, q2, q3, q4, q5, q6, r⟩ := M.own i d q m
    refine ⟨a, xs, vs, q1, q2, q3, q4, q5, fun z => ?_, RpAll.ext ex r⟩
    rcases at1 a z with z | z
    · exact q6 z
    · exact hown i d q m (by rw [← z]; exact q2)
/-! an attribute set anew -/
def stF {α : Type} (f : Str) (v : α) : List Str → List α → List α
  | g :: fs, w :: ws => if g = f then v :: ws else w :: stF f v fs ws
  | _, ws => ws
theorem putF_st (f : Str) (v : V) : ∀ (fs : List Str) (ws : List V), fs.length = ws.length → fs.contains f = true → putF f v (fs.zip ws) = fs.zip (stF f v fs ws)
  | [], _, _, h => by simp at h
  | _ :: _, [], h, _ => by simp at h
  | g :: fs, w :: ws, hl, h => by
    show (if g = f then (g, v) :: fs.zip ws else (g, w) :: putF f v (fs.zip ws)) = (g :: fs).zip (if g = f then v :: ws else w :: stF f v fs ws)
    by_cases e : g = f
    · rw [if_pos e, if_pos e]; rfl
    · rw [if_neg e, if_neg e, putF_st f v fs ws (by simpa using hl) (by simpa [Ne.symm e] using h)]; rfl
theorem stF_len {α : Type} (f : Str) (v : α) : ∀ (fs : List Str) (ws : List α), (stF f v fs ws).length = ws.length
  | [], _ => by unfold stF; rfl
  | _ :: _, [] => rfl
  | g :: fs, w :: ws => by
    unfold stF
    split
    · rfl
    · simp [stF_len f v fs ws]
theorem RpAll.stF {f : Str} {d : D} {v : V} (q : Rp K φ Hf d v) : ∀ (fs : List Str) {xs : List D} {ws : List V}, RpAll K φ Hf xs ws → RpAll K φ Hf (FL.stF f d fs xs) (FL.stF f v fs ws)
  | [], _, _, r => by unfold FL.stF; exact r
  | _ :: _, _, _, .nil => .nil
  | g :: fs, _, _, .cons r t => by
    unfold FL.stF
    split
    · exact .cons q t
    · exact .cons r (RpAll.stF q fs t)
def putO (S : List Ob) (i : Nat) (f : Str) (d : D) : List Ob := match S[i]? with | some o => S.set i ⟨o.k, o.c, o.fs, stF f d o.fs o.xs⟩ | none => S
theorem MSR.put {f : Str} {d : D} {v : V} {i : Nat} {o : Ob} {a dx : Addr} {gs : List (Str × V)} (M : MSR K φ B Bf O ρ S σ Hf H) (ho : S[i]? = some o) (hk : o.k = .ins) (hp : φ i = some a) (h : H a = some (.ins (He.ga K o.c) dx gs)) (hf : o.fs.contains f = true) (r : Rp K φ Hf d v) :
    MSR K φ B Bf O ρ (putO S i f d) σ Hf (upd H a (.ins (He.ga K o.c) dx (putF f v gs))) := by
  obtain ⟨a', q1, q3, q0⟩ := M.cl.at_ i o ho
  rw [hp] at q1
  cases q1
  obtain ⟨dx', vs, q2, q4, q5⟩ := q0.ins hk
  rw [h] at q2
  cases q2
  have hi : i < S.length := (List.getElem?_eq_some_iff.mp ho).1
  have hat : ObAt φ S a := ⟨i, hi, hp⟩
  unfold putO
  rw [ho]
  have len : (S.set i ⟨o.k, o.c, o.fs, FL.stF f d o.fs o.xs⟩).length = S.length := List.length_set
  have D : MDone K φ B Bf (S.set i ⟨o.k, o.c, o.fs, FL.stF f d o.fs o.xs⟩) Hf (upd H a (.ins (He.ga K o.c) dx (putF f v (o.fs.zip vs)))) := by
    refine ⟨fun b u e => ?_, ⟨fun j o' e => ?_, M.cl.inj, fun j hj => M.cl.out j (by rw [len] at hj; exact hj)⟩, fun b u e => ?_, M.fn, fun b ⟨j, hj, e⟩ => M.nb b ⟨j, by rw [len] at hj; exact hj, e⟩⟩
    · have hb : b ≠ a := by rintro rfl; rw [q3] at e; cases e
      rw [upd_ne hb]; exact M.sub _ _ e
    · by_cases hji : j = i
      · subst hji
        rw [List.getElem?_set_self hi] at e
        cases e
        refine ⟨a, hp, q3, ?_⟩
        rw [hk]
        refine .mk_ins (vs := FL.stF f v o.fs vs) (dx := dx) ?_ (by rw [stF_len]; exact q4) (RpAll.stF r _ q5)
        rw [upd_same, putF_st f v _ _ q4 hf]
      · rw [List.getElem?_set_ne (Ne.symm hji)] at e
        obtain ⟨b, p1, p2, p3⟩ := M.cl.at_ j o' e
        refine ⟨b, p1, p2, ?_⟩
        have hb : b ≠ a := by rintro rfl; exact hji (M.cl.inj _ _ _ p1 hp)
        rw [upd_ne hb]; exact p3
    · have hb : b ≠ a := by rintro rfl; rw [M.nb _ hat] at e; cases e
      rw [upd_ne hb]; exact M.fb _ _ e
  refine D.msr M.sr.len M.sr.val (fun j d' q m => ?_) M.sr.ne
  obtain ⟨b, xs, ws, p1, p2, p3, p4, p5, p6, r'⟩ := M.own j d' q m
  have hb : b ≠ a := by rintro rfl; rw [h] at p3; cases p3
  exact ⟨b, xs, ws, p1, p2, by rw [upd_ne hb]; exact p3, p4, p5, fun ⟨j, hj, e⟩ => p6 ⟨j, by rw [len] at hj; exact hj, e⟩, r'⟩
end
end FL
namespace FL
open PySem PySem.Spec L2

/-! ### arguments -/
def MA (X : Cx) (O : List Nat) (es : List Expr) (F : Env → List Ob → Option (List D × List Ob)) : Prop :=
  ∀ (φ : Nat → Option Addr) (B Bf : Hp) (ρ : Env) (S : List Ob) (σ : L2.St) (Hf H : Hp) (ds : List D) (S' : List Ob) (Q : List V → Hp → Prop), MSR X.K φ B Bf O ρ S σ Hf H → F ρ S = some (ds, S') →
    (∀ φ' vs Hf' H', Ext φ φ' → Same Hf Hf' → MSR X.K φ' B Bf O ρ S' σ Hf' H' → RpAll X.K φ' Hf' ds vs → Q vs H') → wA X es σ H Q
def qPure (F : Env → Option D) : Env → List Ob → Option (D × List Ob) := fun ρ S => match F ρ with | some d => some (d, S) | none => none
def qPureA (F : Env → Option (List D)) : Env → List Ob → Option (List D × List Ob) := fun ρ S => match F ρ with | some d => some (d, S) | none => none
def qNil : Env → List Ob → Option (List D × List Ob) := fun ρ S => some ([], S)
def qCons (F : Env → List Ob → Option (D × List Ob)) (G : Env → List Ob → Option (List D × List Ob)) : Env → List Ob → Option (List D × List Ob) := fun ρ S => match F ρ S with | some (d, S1) => (match G ρ S1 with | some (ds, S2) => some (d :: ds, S2) | none => none) | none => none
section
variable {X : Cx} {O : List Nat} {e : Expr} {es : List Expr} {F : Env → Option D} {Fs : Env → Option (List D)} {M1 : Env → List Ob → Option (D × List Ob)} {A1 : Env → List Ob → Option (List D × List Ob)}
theorem MSR.gr {K : PySem.W.Frag} {φ : Nat → Option Addr} {B Bf : Hp} {ρ : Env} {S : List Ob} {σ : L2.St} {Hf H Hf1 H1 : Hp} (M : MSR K φ B Bf O ρ S σ Hf H) (g : Gr Hf H Hf1 H1) : MSR K φ B Bf O ρ S σ Hf1 H1 := M.step (M.sr.gr g)
theorem me_pure (h : FE X O e F) : ME X O e (qPure F) := fun φ B Bf ρ S σ Hf H d S' Q M hF k => by
  unfold qPure at hF
  split at hF
  · rename_i d' hd
    cases hF
    exact h φ _ _ ρ σ Hf H d _ M.sr hd fun v Hf1 H1 g r => k φ v Hf1 H1 (.refl φ) g.f (M.gr g) r
  · cases hF
theorem ma_pure (h : FA X O es Fs) : MA X O es (qPureA Fs) := fun φ B Bf ρ S σ Hf H d S' Q M hF k => by
  unfold qPureA at hF
  split at hF
  · rename_i d' hd
    cases hF
    exact h φ _ _ ρ σ Hf H d _ M.sr hd fun v Hf1 H1 g r => k φ v Hf1 H1 (.refl φ) g.f (M.gr g) r
  · cases hF
theorem ma_nil : MA X O [] qNil := fun φ B Bf ρ S σ Hf H d S' Q M hF k => by
  cases hF
  exact toA pa_nil (k φ [] Hf H (.refl φ) (Same.refl _) M .nil)
theorem ma_cons (h : ME X O e M1) (t : MA X O es A1) (hs : starEach (e :: es) X.env = (false, eval e X.env) :: starEach es X.env := by rfl) : MA X O (e :: es) (qCons M1 A1) := fun φ B Bf ρ S σ Hf H ds S' Q M hF k => by
  unfold qCons at hF
  split at hF
  · rename_i d S1 h1
    split at hF
    · rename_i ds' S2 h2
      cases hF
      refine toA (pa_cons (peW (e := e)) (paW (es := es)) hs) ?_
      refine h φ B Bf ρ S σ Hf H d S1 _ M h1 fun φ1 v Hf1 H1 e1 s1 M1 r1 => ?_
      refine t φ1 B Bf ρ S1 σ Hf1 H1 ds' _ _ M1 h2 fun φ2 vs Hf2 H2 e2 s2 M2 r2 => ?_
      exact k φ2 (v :: vs) Hf2 H2 (e1.trans e2) (s1.trans s2) M2 (.cons ((r1.ext e2).mono s2) r2)
    · cases hF
  · cases hF
end
/-! ### the promise of a def that changes objects -/
def spE (K : PySem.W.Frag) (n : Nat) (mir : List D → List Ob → Option (D × List Ob)) : Sp := fun vs H Q _ => ∃ (φ : Nat → Option Addr) (B Bf : Hp) (S : List Ob) (Hf : Hp) (ds : List D) (d : D) (S' : List Ob), MDone K φ B Bf S Hf H ∧ RpAll K φ Hf ds vs ∧ ds.length = n ∧ mir ds S = some (d, S') ∧
  ∀ φ' v Hf' H', Ext φ φ' → Same Hf Hf' → MDone K φ' B Bf S' Hf' H' → Rp K φ' Hf' d v → Q v H'
def runM (N n : Nat) (G : Env → List Ob → Option MOut) (ds : List D) (S : List Ob) : Option (D × List Ob) := match G (envOf N n ds) S with
  | some (.rt d S') => some (d, S')
  | some (.nx _ S') => some (.non, S')
  | none => none
structure CalE (P : Program) (w : World) (K : PySem.W.Frag) (mg : Str → Option Value) (base : Heap) (k : Nat) (x : Str) (n : Nat) (mir : List D → List Ob → Option (D × List Ob)) : Prop where
  ok : ∃ (f : Addr) (fd : FuncData) (ps : List Str), FnOk P w K mg base CX0 k f fd ps (spE K n mir) ∧ mg x = some (.ref f) ∧ PySem.W.keepIn K (.ref f) = true ∧ Binds K fd ps []
structure CalME (P : Program) (w : World) (K : PySem.W.Frag) (mg : Str → Option Value) (base : Heap) (k : Nat) (c m : Str) (n : Nat) (mir : List D → List Ob → Option (D × List Ob)) : Prop where
  ok : ∃ (f : Addr) (fd : FuncData) (ps : List Str), FnOk P w K mg base CX0 k f fd ps (spE K n mir) ∧ Cls K (He.ga K c) ∧ Meth K (He.ga K c) m f ∧ Binds K fd ps []
section
variable {P : Program} {w : World} {K : PySem.W.Frag} {mg : Str → Option Value} {base : Heap} {k : Nat} {a : Addr} {ps N : List Str} {x q c m : Str} {st : Stmt} {G : Env → List Ob → Option MOut} {dvs : List V} {kws : List (Str × V)}
theorem fnOk_m {fd : FuncData} {N' n : Nat} (F : FunD K x q (defArgs st) (defBody st) (defScope st) dvs kws a fd) (S : FnScope N ps (defScope st)) (hN : N' = N.length) (hn : n = ps.length) (O' : List Nat)
    (hb : ∀ (cdv : Value) (A : Around) (outer : List PySem.Env) (s : Shared) (H : Hp) (E : XK), Room k (A.deeper (PyProof.Rows.envOfC q (defScope st) s.heap.objs.size a cdv)) →
      MSs (cxOf CX0 P w K mg base N q (defScope st) a cdv A outer s H E).nox [] O' (defBody st) G) : FnOk P w K mg base CX0 (k + 1) a fd ps (spE K n (runM N' n G)) := by
  subst hN hn
  refine FunD.ok F S (fun vs H Q E h => ?_) (fun cdv A outer s H vs Q E hr h => ?_)
  · obtain ⟨φ, B, Bf, S, Hf, ds, d, S', _, r, hl, _⟩ := h
    exact r.length.symm.trans hl
  · obtain ⟨φ, B, Bf, So, Hf, ds, d, S', hD, r, hl, hm, hk⟩ := h
    refine ⟨_, PSs.nox pssW, ?_⟩
    have hvl : vs.length = ps.length := r.length.symm.trans hl
    unfold L2.start
    rw [hvl]
    unfold runM envOf at hm
    have M0 : MSR K φ B Bf [] (ds.map some ++ List.replicate (N.length - ps.length) none) So (vs.map some ++ List.replicate (N.length - ps.length) none) Hf H :=
      hD.msr (by simp [r.length]) (fun i d e _ => r.val _ i d e) (fun i d _ m => absurd m (by simp)) (fun i j _ _ _ _ _ m => absurd m (by simp))
    split at hm
    · rename_i d' S1 h'
      cases hm
      exact hb cdv A outer s H E hr φ B Bf _ So _ Hf H _ _ M0 h' hk
    · rename_i ρ' S1 h'
      cases hm
      exact hb cdv A outer s H E hr φ B Bf _ So _ Hf H _ _ M0 h' fun φ' σ' Hf' H' e' s' M' => hk φ' _ Hf' H' e' s' M'.done .non
    · cases hm
theorem calE_of {N' n : Nat} (Dd : DefAt K x st a) (g : mg x = some (.ref a)) (S : FnScope N ps (defScope st)) (hN : N' = N.length) (hn : n = ps.length)
    (hbind : ∀ (kV doc pm : Value) (an : Option Addr) (cdv ct : Value) (us : List Value), us.length = ps.length → bindArgs (PySem.W.fnOf x x (defArgs st) (defBody st) (defScope st) .none kV doc pm an cdv ct) ⟨us, []⟩ = pure (ps.zip us))
    (O' : List Nat)
    (hb : ∀ (cdv : Value) (A : Around) (outer : List PySem.Env) (s : Shared) (H : Hp) (E : XK), Room k (A.deeper (PyProof.Rows.envOfC x (defScope st) s.heap.objs.size a cdv)) →
      MSs (cxOf CX0 P w K mg base N x (defScope st) a cdv A outer s H E).nox [] O' (defBody st) G) : CalE P w K mg base (k + 1) x n (runM N' n G) := by
  obtain ⟨fd, F⟩ := Dd
  exact ⟨a, fd, ps, fnOk_m F S hN hn O' hb, g, F.kp, FunD.bindsN F hbind⟩
theorem calME_of {N' n : Nat} (Dd : FnAt K m q st [] kws (He.fAd K (c, some m))) (hc : Cls K (He.ga K c)) (hm : Meth K (He.ga K c) m (He.ma K (He.ga K c) m)) (S : FnScope N ps (defScope st)) (hN : N' = N.length) (hn : n = ps.length)
    (hbind : ∀ (kV doc pm : Value) (an : Option Addr) (cdv ct : Value) (us : List Value), us.length = ps.length → bindArgs (PySem.W.fnOf m q (defArgs st) (defBody st) (defScope st) .none kV doc pm an cdv ct) ⟨us, []⟩ = pure (ps.zip us))
    (O' : List Nat)
    (hb : ∀ (cdv : Value) (A : Around) (outer : List PySem.Env) (s : Shared) (H : Hp) (E : XK), Room k (A.deeper (PyProof.Rows.envOfC q (defScope st) s.heap.objs.size (He.fAd K (c, some m)) cdv)) →
      MSs (cxOf CX0 P w K mg base N q (defScope st) (He.fAd K (c, some m)) cdv A outer s H E).nox [] O' (defBody st) G) : CalME P w K mg base (k + 1) c m n (runM N' n G) := by
  obtain ⟨fd, F⟩ := Dd
  exact ⟨_, fd, ps, fnOk_m F S hN hn O' hb, hc, hm, FunD.bindsN F hbind⟩
end
/-! ### calls -/
section
variable {X : Cx} {O : List Nat} {e o : Expr} {es : List Expr} {c m x f : Str} {p pos apos pos' : Pos} {Fo : Env → Option D} {A1 : Env → List Ob → Option (List D × List Ob)} {M1 : Env → List Ob → Option (D × List Ob)} {k j n i : Nat} {fs : List Str} {mi : List D → Option (List D)} {mir : List D → List Ob → Option (D × List Ob)}
def mNew (c : Str) (fs : List Str) (n : Nat) (mi : List D → Option (List D)) (A : Env → List Ob → Option (List D × List Ob)) : Env → List Ob → Option (D × List Ob) := fun ρ S => match A ρ S with
  | some (ds, S1) => if ds.length = n then (match mi ds with | some xs => some (.obj S1.length, S1 ++ [⟨.ins, c, fs, xs⟩]) | none => none) else none
  | none => none
theorem me_new (cc : CalC X.prog X.w X.K X.mg X.base j c fs n mi) (hr : Room k X.A) (hk : j + 1 ≤ k) (hg : Gl X c) (ha : MA X O (e :: es) A1) (hdb : (c == ("__debug__" : Str)) = false := by decide) (he : starEach (e :: es) X.env = (false, eval e X.env) :: starEach es X.env := by rfl)
    (hpl : (backTo pos (starEach es X.env)).any (·.1) = false := by rfl) : ME X O (.Call (.Name c p) (e :: es) [] pos) (mNew c fs n mi A1) := by
  obtain ⟨f, fd, ps, Fn, Mk, hm, hb⟩ := cc.ok
  intro φ B Bf ρ S σ Hf H d S' Q M hF q
  unfold mNew at hF
  split at hF
  · rename_i ds S1 h1
    split at hF
    · rename_i hl
      split at hF
      · rename_i xs h2
        cases hF
        refine toE (pe_make Mk Fn (hr.mono hk) hg hm hb .nil pass0 paW hdb he hpl) ?_
        refine ha φ B Bf ρ S σ Hf H ds S1 _ M h1 fun φ1 vs Hf1 H1 e1 s1 M1 r1 => ?_
        intro x dx hx hdx hne
        have hs1 : Same H1 (upd (upd H1 dx (.own x)) x (.ins (He.ga X.K c) dx [])) := (same_upd hdx).trans (same_upd (by rw [upd_ne (fun z => hne z.symm)]; exact hx))
        refine ⟨φ1, Hf1, x, dx, vs, ds, xs, by rw [List.append_nil], upd_same, M1.sub.free hx, M1.sub.trans hs1, r1, hl, h2, fun Hf2 H2 ws t s2 x2 y2 l2 r2 => ⟨rfl, ?_⟩⟩
        have g2 : Gr Hf1 H1 Hf2 H2 := ⟨t.f, fun b u z => t.h b u (ne_of_none z hx) (hs1 _ _ z), s2, fun b u z zf => t.n b u (ne_of_none z hx) (hs1 _ _ z) zf⟩
        have hB : B x = none := by
          cases hq : B x with
          | none => rfl
          | some u => rw [M1.fb _ _ hq] at hx; cases hx
        have new : ∀ i, φ1 i ≠ some x := fun i hi => by
          by_cases hl : i < S1.length
          · obtain ⟨_, z, _⟩ := M1.cl.get ⟨i, hl, hi⟩
            rw [hx] at z; cases z
          · rw [M1.cl.out i (by omega)] at hi; cases hi
        have hown : ∀ i d, ρ[i]? = some (some d) → i ∈ O → σ[i]? ≠ some (some (.ref x)) := fun i d hd hi z => by
          obtain ⟨a, xs', vs', q1, q2, q3, _⟩ := M1.own i d hd hi
          rw [z] at q2
          cases q2
          rw [hx] at q3; cases q3
        obtain ⟨ex, M2⟩ := (M1.gr g2).add (o := ⟨.ins, c, fs, xs⟩) (.mk_ins y2 l2 r2) x2 hB new hown
        exact q _ (.ref x) Hf2 H2 (e1.trans ex) (s1.trans t.f) M2 (.obj (by unfold nphi; rw [if_pos rfl]))
      · cases hF
    · cases hF
  · cases hF
def mCall (n : Nat) (mir : List D → List Ob → Option (D × List Ob)) (A : Env → List Ob → Option (List D × List Ob)) : Env → List Ob → Option (D × List Ob) := fun ρ S => match A ρ S with
  | some (ds, S1) => if ds.length = n then mir ds S1 else none
  | none => none
/-- into a def and back -/
theorem MSR.into {K : PySem.W.Frag} {φ : Nat → Option Addr} {B Bf : Hp} {ρ : Env} {S S' : List Ob} {σ : L2.St} {Hf H : Hp} {ds : List D} {vs : List V} {d : D} {Q : VK} {E : XK} (M : MSR K φ B Bf O ρ S σ Hf H) (r : RpAll K φ Hf ds vs) (hl : ds.length = n) (hm : mir ds S = some (d, S'))
    (k : ∀ φ' v Hf' H', Ext φ φ' → Same Hf Hf' → MSR K φ' B Bf O ρ S' σ Hf' H' → Rp K φ' Hf' d v → Q v H') : spE K n mir vs H Q E :=
  ⟨φ, FL.hid φ S H, Hf, S, Hf, ds, d, S', M.hid, r, hl, hm, fun φ' v Hf' H' e s D r' => k φ' v Hf' H' e s (M.called e s D) r'⟩
theorem me_call (c : CalE X.prog X.w X.K X.mg X.base j x n mir) (hr : Room k X.A) (hk : j ≤ k) (hg : Gl X x) (ha : MA X O (e :: es) A1) (hdb : (x == ("__debug__" : Str)) = false := by decide +kernel) (he : starEach (e :: es) X.env = (false, eval e X.env) :: starEach es X.env := by rfl)
    (hpl : (backTo pos (starEach es X.env)).any (·.1) = false := by rfl) : ME X O (.Call (.Name x p) (e :: es) [] pos) (mCall n mir A1) := by
  obtain ⟨f, fd, ps, F, hm, hkp, hb⟩ := c.ok
  intro φ B Bf ρ S σ Hf H d S' Q M hF q
  unfold mCall at hF
  split at hF
  · rename_i ds S1 h1
    split at hF
    · rename_i hl
      refine toE (pe_call F (hr.mono hk) hg hm hkp hb .nil pass0 paW hdb he hpl) ?_
      refine ha φ B Bf ρ S σ Hf H ds S1 _ M h1 fun φ1 vs Hf1 H1 e1 s1 M1 r1 => ?_
      exact M1.into (by rw [List.append_nil]; exact r1) hl hF fun φ2 v Hf2 H2 e2 s2 M2 r2 => q φ2 v Hf2 H2 (e1.trans e2) (s1.trans s2) M2 r2
    · cases hF
  · cases hF
def mMe (c m : Str) (n : Nat) (mir : List D → List Ob → Option (D × List Ob)) (Fo : Env → Option D) (A : Env → List Ob → Option (List D × List Ob)) : Env → List Ob → Option (D × List Ob) := fun ρ S => match Fo ρ with
  | some (.obj i) => (match S[i]? with
    | some o => if o.k = .ins ∧ o.c = c ∧ o.fs.contains m = false then (match A ρ S with
      | some (ds, S1) => if ds.length + 1 = n then mir (.obj i :: ds) S1 else none
      | none => none) else none
    | none => none)
  | _ => none
theorem mMe_some {ρ : Env} {S S' : List Ob} {d : D} (h : mMe c m n mir Fo A1 ρ S = some (d, S')) : ∃ i o ds S1, Fo ρ = some (.obj i) ∧ S[i]? = some o ∧ o.k = .ins ∧ o.c = c ∧ o.fs.contains m = false ∧ A1 ρ S = some (ds, S1) ∧ ds.length + 1 = n ∧ mir (.obj i :: ds) S1 = some (d, S') := by
  unfold mMe at h
  split at h
  · rename_i i h1
    split at h
    · rename_i o h2
      split at h
      · rename_i h3
        split at h
        · rename_i ds S1 h4
          split at h
          · rename_i h5
            exact ⟨i, o, ds, S1, h1, h2, h3.1, h3.2.1, h3.2.2, h4, h5, h⟩
          · cases h
        · cases h
      · cases h
    · cases h
  · cases h
theorem me_meth {pl : Sem Bool} (cm : CalME X.prog X.w X.K X.mg X.base j c m n mir) (hr : Room k X.A) (hk : j ≤ k) (ho : FE X O o Fo) (ha : MA X O (e :: es) A1)
    (hst : starEach (e :: es) X.env = (false, eval e X.env) :: starEach es X.env := by rfl) (hpl : (backTo pos (starEach es X.env)).any (·.1) = false := by rfl)
    (ht : eval (.Call (.Attribute o m apos) (e :: es) [] pos) X.env = (do
      let ov ← eval o X.env
      standAt apos.atName
      let (f, first) ← holding [ov] (getMethod ov m pl)
      callWith pos f first (backTo pos (starEach (e :: es) X.env)) (backToKw pos (keywordEach [] X.env))) := by rfl) : ME X O (.Call (.Attribute o m apos) (e :: es) [] pos) (mMe c m n mir Fo A1) := by
  obtain ⟨f, fd, ps, Fn, hc, hm, hb⟩ := cm.ok
  intro φ B Bf ρ S σ Hf H d S' Q M hF q
  obtain ⟨i, o', ds, S1, h1, h2, h0, h3, h4, h5, h6, h7⟩ := mMe_some hF
  subst h3
  refine toE (pe_meth (pl := pl) peW hc hm Fn (hr.mono hk) hb .nil pass0 paW hst hpl ht) ?_
  refine ho φ _ _ ρ σ Hf H _ _ M.sr h1 fun v Hf1 H1 g1 r1 => ?_
  have M1 := M.gr g1
  cases r1 with
  | obj hi =>
    obtain ⟨a, q1, q3, q0⟩ := M1.cl.at_ _ _ h2
    rw [hi] at q1
    cases q1
    obtain ⟨dx, vs0, q2, q4, q5⟩ := q0.ins h0
    refine ⟨_, _, _, rfl, q2, zip_lookup_none _ _ h4, ?_⟩
    refine ha φ B Bf ρ S σ Hf1 H1 ds S1 _ M1 h5 fun φ2 vs Hf2 H2 e2 s2 M2 r2 => ?_
    refine M2.into (ds := .obj i :: ds) (.cons (.obj (e2 _ _ hi)) (by rw [List.append_nil]; exact r2)) h6 h7 fun φ3 v Hf3 H3 e3 s3 M3 r3 => q φ3 v Hf3 H3 (e2.trans e3) ((g1.f.trans s2).trans s3) M3 r3
/-! ### statements -/
theorem ms_expr {O' : List Nat} (h : ME X O e M1) (hs : swapsWith e none pos.line X.env = pure false := by rfl) : MS X O O (.Expr e pos) (fun ρ S => match M1 ρ S with | some (_, S') => some (.nx ρ S') | none => none) := fun φ B Bf ρ S σ Hf H out Dn M hF P => by
  dsimp only at hF
  split at hF
  · rename_i d S' hd
    cases hF
    exact toS (ps_expr peW hs) (h φ B Bf ρ S σ Hf H d S' _ M hd fun φ1 v Hf1 H1 e1 s1 M1 r1 => P φ1 _ Hf1 H1 e1 s1 M1)
  · cases hF
def mPut (c f : Str) (Fo : Env → Option D) (M1 : Env → List Ob → Option (D × List Ob)) : Env → List Ob → Option MOut := fun ρ S => match M1 ρ S with
  | some (d, S1) => (match Fo ρ with
    | some (.obj i) => (match S1[i]? with | some o => if o.k = .ins ∧ o.c = c ∧ o.fs.contains f = true ∧ o.fs.length < 1000 then some (.nx ρ (putO S1 i f d)) else none | none => none)
    | _ => none)
  | none => none
theorem ms_put (hc : Cls X.K (He.ga X.K c)) (hna : NoAttr X.K (He.ga X.K c) f) (h : ME X O e M1) (ho : FE X O o Fo) (hs : swapsWith e (some (.Attribute o f pos')) pos.line X.env = pure false := by rfl) :
    MS X O O (.Assign [.Attribute o f pos'] e pos) (mPut c f Fo M1) := fun φ B Bf ρ S σ Hf H out Dn M hF P => by
  unfold mPut at hF
  split at hF
  · rename_i d S1 hd
    split at hF
    · rename_i i h1
      split at hF
      · rename_i o' h2
        split at hF
        · rename_i h3
          obtain ⟨h0, rfl, h4, h5⟩ := h3
          cases hF
          refine toS (ps_fld peW peW hs) ?_
          refine h φ B Bf ρ S σ Hf H d S1 _ M hd fun φ1 v Hf1 H1 e1 s1 M1 r1 => ?_
          refine ho φ1 _ _ ρ σ Hf1 H1 _ _ M1.sr h1 fun v2 Hf2 H2 g2 r2 => ?_
          have M2 := M1.gr g2
          cases r2 with
          | obj hi =>
            obtain ⟨a, q1, q3, q0⟩ := M2.cl.at_ _ _ h2
            rw [hi] at q1
            cases q1
            obtain ⟨dx, vs0, q2, q4, q5⟩ := q0.ins h0
            refine ⟨_, _, _, _, rfl, q2, hc, hna, by rw [List.length_zip]; omega, ?_⟩
            exact P φ1 _ Hf2 _ e1 (s1.trans g2.f) (M2.put h2 h0 hi q2 h4 (r1.mono g2.f))
        · cases hF
      · cases hF
    · cases hF
  · cases hF
/-! x op= e, the class says how -/
theorem me_runG {A : Around} {n : Nat} {f : Addr} {fd : FuncData} {ps : List Str} {sp : Sp} (Fn : FnOk X.prog X.w X.K X.mg X.base CX0 j f fd ps sp) (hb : Binds X.K fd ps [])
    {pins : List (Addr × Obj)} {σ : L2.St} {H : Hp} {s : Shared} {vs : List V} {us : List Value} {Q : VK} (hr : Room j A) (e0 : Env0 X.prog X.w X.K X.mg X.base A X.stack s H) (I : Inv X pins σ H s) (r : Vals vs us) (q : sp vs H Q fun _ _ _ => False) :
    wpAny (model X.prog X.w) A (call (.ref f) us) (EP X pins σ Q) X.xe s := by
  have l : us.length = ps.length := by rw [← r.length]; exact Fn.len _ _ _ _ q
  have b := hb s us I.kIn (by rw [List.append_nil]; exact l)
  rw [List.append_nil] at b
  refine wpAny_call (codeAny_mono (Fn.run A X.stack s H ⟨us, []⟩ us vs Q _ hr e0 b r q) fun z s' hz => ?_)
  match z, hz with
  | .ok (.ret u), hz => exact I.after hz
  | .error _, hz => exact False.elim hz
def ipMe (K : PySem.W.Frag) (c : Str) (mir : List D → List Ob → Option (D × List Ob)) : TIp := fun x y H Q => ∃ a dx gs, x = .ref a ∧ H a = some (.ins (He.ga K c) dx gs) ∧ spE K 2 mir [x, y] H Q fun _ _ _ => False
theorem ip_me {op : Operator} {m0 : Str} (cm : CalME X.prog X.w X.K X.mg X.base j c m0 2 mir) (sf : PySem.W.selfFirst X.K (He.ga X.K c) = true) (hr : Room k X.A) (hk : j ≤ k) (he : PySem.dunderI op.info.2 = m0 := by kernel_rfl) : PIp X op (ipMe X.K c mir) := by
  subst he
  obtain ⟨f, fd, ps, Fn, hc, hm, hb⟩ := cm.ok
  intro pins s σ H x y v u Q I rx ry h
  obtain ⟨a, dx, gs, rfl, h1, q⟩ := h
  cases rx
  obtain ⟨ox, od, J⟩ := insAt I h1
  obtain ⟨m, hF⟩ := I.fr
  refine PySem.W.ksp_inplace hF I.ok.mod.kin J sf hm.at_ hm.fn ?_
  refine wpAny_mono (me_runG (n := 2) (vs := [.ref a, y]) (us := [.ref a, u]) Fn hb (hr.mono hk) I.env0 I (.cons rfl (.cons ry .nil)) q) (fun w s' z => ?_) fun _ _ z => z
  obtain ⟨z', H', I', rz, qz⟩ := z
  exact SlX.cmpback rz ⟨z', H', I', rz, qz⟩
def mAug (i : Nat) (c : Str) (mir : List D → List Ob → Option (D × List Ob)) (M1 : Env → List Ob → Option (D × List Ob)) : Env → List Ob → Option MOut := fun ρ S => match ρ[i]? with
  | some (some (.obj t)) => (match M1 ρ S with
    | some (y, S1) => (match S1[t]? with
      | some o => if o.k = .ins ∧ o.c = c then (match mir [.obj t, y] S1 with | some (d, S2) => some (.nx (ρ.set i (some d)) S2) | none => none) else none
      | none => none)
    | none => none)
  | _ => none
theorem ms_aug {op : Operator} {m0 : Str} {p2 : Pos} (cm : CalME X.prog X.w X.K X.mg X.base j c m0 2 mir) (sf : PySem.W.selfFirst X.K (He.ga X.K c) = true) (hr : Room k X.A) (hk : j ≤ k) (hN : X.N.Nodup) (hi : X.N[i]? = some x) (hx : Loc X.env.scope x) (hO : O.contains i = false) (h : ME X O e M1)
    (he : PySem.dunderI op.info.2 = m0 := by kernel_rfl) (hf : X.fn x = true ∨ X.env.scope.names.lookup x = some .local := by first | exact .inl rfl | exact .inr rfl | assumption) :
    MS X O (O.filter (· != i)) (.AugAssign (.Name x p2) op e pos) (mAug i c mir M1) := fun φ B Bf ρ S σ Hf H out Dn M hF P => by
  unfold mAug at hF
  split at hF
  · rename_i t ht
    split at hF
    · rename_i y S1 hy
      split at hF
      · rename_i o' h2
        split at hF
        · rename_i h3
          obtain ⟨h0, rfl⟩ := h3
          split at hF
          · rename_i d S2 h4
            cases hF
            refine toS (ps_aug hN hi hx peW (ip_me cm sf hr hk he) hf) ?_
            have hno : i ∉ O := fun z => by
              have := List.contains_iff_mem.mpr z
              rw [hO] at this; cases this
            obtain ⟨v, e0, r⟩ := M.sr.val i _ ht hno
            refine ⟨v, e0, ?_⟩
            refine h φ B Bf ρ S σ Hf H y S1 _ M hy fun φ1 u Hf1 H1 e1 s1 M1 r1 => ?_
            cases r with
            | obj ha =>
              obtain ⟨a, q1, q3, q0⟩ := M1.cl.at_ _ _ h2
              rw [e1 _ _ ha] at q1
              cases q1
              obtain ⟨dx, vs0, q2, q4, q5⟩ := q0.ins h0
              refine ⟨_, _, _, rfl, q2, ?_⟩
              exact M1.into (ds := [.obj t, y]) (.cons (.obj (e1 _ _ ha)) (.cons r1 .nil)) rfl h4 fun φ2 v2 Hf2 H2 e2 s2 M2 r2 => P φ2 _ Hf2 H2 (e1.trans e2) (s1.trans s2) (M2.set i r2)
          · cases hF
        · cases hF
      · cases hF
    · cases hF
  · cases hF
end
/-! ### the law's end -/
theorem law_spE {K : PySem.W.Frag} {m : List D → List Ob → Option (D × List Ob)} (hm : ∀ ns : List Int, ns.length ≤ 63 → ∃ S', m [.klst (ns.map D.int)] [] = some (.bl true, S')) :
    ∀ (H : Hp) (a : Addr) (ns : List Int), ns.length ≤ 63 → L2.Only H → SqL K H a (ns.map V.int) → spE K 1 m [.ref a] H (fun v _ => v = .bl true) fun _ _ _ => False := fun H a ns hl _ hS => by
  have r : ∀ l : List Int, RpAll K (fun _ => none) H (l.map D.int) (l.map V.int) := fun l => by
    induction l with
    | nil => exact .nil
    | cons z l ih => exact .cons (.int z) ih
  obtain ⟨S', e⟩ := hm ns hl
  refine ⟨fun _ => none, fun _ => none, fun _ => none, [], H, [.klst (ns.map D.int)], .bl true, S', ⟨Same.refl _, ⟨fun i o z => (by simp at z), fun i j a z => (by cases z), fun _ _ => rfl⟩, fun _ _ z => (by cases z), fun _ _ z => (by cases z), fun a ⟨i, hi, _⟩ => (by simp at hi)⟩, .cons (.klst hS (r ns)) .nil, rfl, e, fun φ' v Hf' H' _ _ _ r => by cases r; rfl⟩
end FL
namespace FL
open PySem PySem.Spec PyProof.Rows L2

/-! ### *o, o an object of our own with __len__ whose __iter__ returns a tuple's iterator -/
section
variable {X : Cx} {pins : List (Addr × Obj)} {σ : L2.St} {c g : Str} {j k : Nat} {mir : List D → Option D}
/-- the list at q is filled from the tuple at t -/
theorem tup_loop {A1 : Around} {q t it : Addr} {zs : List V} {Rs : Result → Shared → Prop} (hh : A1.in1.handled = none) (hz : zs.length < sizeLine) :
    ∀ (m : Nat) (acc rest : List V) (H : Hp) (s : Shared), rest.length = m → zs = acc ++ rest → H q = some (.lst acc) → SqT X.K H t zs → Inv X pins σ H s → s.heap.IsTupleIter it t acc.length → FpOk X pins H it →
      (∀ s', Inv X pins σ (upd H q (.lst zs)) s' → Rs (.ok (.ret (.ref q))) s') → codeAny (model X.prog X.w) A1 (.builtin "list.extend.loop" ⟨[.ref q, .ref it, .ref q], []⟩) Rs s := by
  intro m
  induction m with
  | zero =>
    intro acc rest H s hm hzs hq ht I st hf hdone
    cases rest with
    | cons _ _ => simp at hm
    | nil =>
      rw [List.append_nil] at hzs
      subst hzs
      obtain ⟨its, rv, p, _⟩ := I.tuple ht
      obtain ⟨f0, f1, f2, f3, f4, f5⟩ := hf
      have hl := rv.length
      refine codeAny_builtin PySem.F.entry_extend_loop ?_
      rw [Around.under_plainId PySem.F.plain_extend_loop _]
      show wpAny _ A1.in1 (pyNext (.ref it) >>= _) _ _ s
      refine wpAny_bind (wpAny_pyNext_tuple_end hh st (show s.heap.IsTuple t its.toArray from p) (by simp; omega) fun h' eb => ?_)
      have I1 : Inv X pins σ H { s with heap := h' } := I.turned (t' := s.toks) (fun b o hb e => eb b o hb e) f0 f1 f3 f4 f5
      refine wpAny_pure (hdone _ ?_)
      have e : upd H q (.lst zs) = H := by
        funext b
        by_cases hb : b = q
        · rw [hb, upd_same, hq]
        · rw [upd_ne hb]
      rw [e]
      exact I1
  | succ m ih =>
    intro acc rest H s hm hzs hq ht I st hf hdone
    cases rest with
    | nil => simp at hm
    | cons x rest =>
      obtain ⟨its, rv, p, _⟩ := I.tuple ht
      have hx : zs[acc.length]? = some x := by rw [hzs, List.getElem?_append_right (Nat.le_refl _), Nat.sub_self]; rfl
      obtain ⟨u, hu, ru⟩ := rv.get hx
      obtain ⟨f0, f1, f2, f3, f4, f5⟩ := hf
      refine codeAny_builtin PySem.F.entry_extend_loop ?_
      rw [Around.under_plainId PySem.F.plain_extend_loop _]
      show wpAny _ A1.in1 (pyNext (.ref it) >>= _) _ _ s
      refine wpAny_bind (wpAny_pyNext_tuple_item st (show s.heap.IsTuple t its.toArray from p) (x := u) (by simpa using hu) fun h' st' sb => ?_)
      have I1 : Inv X pins σ H { s with heap := h' } := I.turned (t' := s.toks) (fun b o hb e => (sb.2 b hb).trans e) f0 f1 f3 f4 f5
      show wpAny _ A1.in1 (updateSeq q (·.push u) >>= _) _ _ _
      obtain ⟨z, its1, k1, r2, hl, e⟩ := I1.lstM hq
      have hlen : acc.length + 1 ≤ sizeLine := by
        have := congrArg List.length hzs
        simp at this
        omega
      refine wpAny_bind (wpAny_updateSeq e rfl (wpAny_pure ⟨plainId_quiet PySem.F.plain_extend_loop _, ?_⟩) (by rw [List.size_toArray]; omega) (by show (its1.toArray.push u).size ≤ sizeLine + 1; rw [Array.size_push, List.size_toArray]; omega))
      have hne : it ≠ q := fun z => by rw [z, hq] at f0; cases f0
      have ht2 : SqT X.K (upd H q (.lst (acc ++ [x]))) t zs := by
        rcases ht with (h | ⟨o, h⟩) | h
        · exact .inl (.inl (by rw [upd_ne (fun z => by rw [z, hq] at h; cases h)]; exact h))
        · exact .inl (.inr ⟨o, by rw [upd_ne (fun z => by rw [z, hq] at h; cases h)]; exact h⟩)
        · exact .inr h
      refine ih (acc ++ [x]) rest (upd H q (.lst (acc ++ [x]))) _ (by simpa using hm) (by rw [hzs]; simp) upd_same ht2
        (I1.lset (its' := its1 ++ [u]) (t' := s.toks) hq e (by simp) (r2.append (.cons ru .nil)) (by rw [List.length_append, List.length_singleton]; omega)) ?_ ⟨by rw [upd_ne hne]; exact f0, f1, f2, f3, f4, f5⟩ fun s' I' => hdone s' (by rw [upd_upd] at I'; exact I')
      rw [List.length_append, List.length_singleton]
      exact st'.at fun o e => (Heap.get?_update_other _ _ (Ne.symm hne)).trans e
/-- a method's run that raises nothing, whatever would be asked of what it raises -/
theorem me_runX {A : Around} {n : Nat} {f : Addr} {fd : FuncData} {ps : List Str} {sp : Sp} {E' : Value → Shared → Prop} (Fn : FnOk X.prog X.w X.K X.mg X.base CX0 j f fd ps sp) (hb : Binds X.K fd ps [])
    {H : Hp} {s : Shared} {vs : List V} {us : List Value} {Q : VK} (hr : Room j A) (e0 : Env0 X.prog X.w X.K X.mg X.base A X.stack s H) (I : Inv X pins σ H s) (r : Vals vs us) (q : sp vs H Q fun _ _ _ => False) :
    wpAny (model X.prog X.w) A (call (.ref f) us) (EP X pins σ Q) E' s := by
  have l : us.length = ps.length := by rw [← r.length]; exact Fn.len _ _ _ _ q
  have b := hb s us I.kIn (by rw [List.append_nil]; exact l)
  rw [List.append_nil] at b
  refine wpAny_call (codeAny_mono (Fn.run A X.stack s H ⟨us, []⟩ us vs Q _ hr e0 b r q) fun z s' hz => ?_)
  match z, hz with
  | .ok (.ret u), hz => exact I.after hz
  | .error _, hz => exact False.elim hz
/-- the items of such an object -/
theorem star_own {a dx t : Addr} {gs : List (Str × V)} {zs : List V} {R : Hp → Prop} {H : Hp} {s : Shared} {Q : List Value → Shared → Prop} (cm : CalI X.prog X.w X.K X.mg X.base j c g) (cl : CalM X.prog X.w X.K X.mg X.base j c "__len__" false 1 mir []) (hr : Room k X.A) (hk : j + 2 ≤ k)
    (I : Inv X pins σ H s) (ha : H a = some (.ins (He.ga X.K c) dx gs)) (hl : gs.lookup g = some (.ref t)) (ht : SqT X.K H t zs) (hz : zs.length < sizeLine)
    (hq : ∀ q it, H q = none → H it = none → q ≠ it → spF X.K false 1 mir [.ref a] (upd (upd H q (.lst [])) it (TiO t it)) (fun z H' => ∃ n : Int, z = .int n ∧ 0 ≤ n ∧ n ≤ 1000 ∧ H' q = some (.lst []) ∧ H' it = some (TiO t it) ∧ SqT X.K H' t zs ∧ R (upd (ItX.dropH H' it) q (.lst zs))) (fun _ _ _ => False))
    (hQ : ∀ us s' H', Inv X pins σ H' s' → Vals zs us → R H' → Q us s') : PySem.W.StarOf (model X.prog X.w) X.A X.xe (.ref a) Q s := by
  obtain ⟨fi, hmi, hc, Fi⟩ := cm.ok
  obtain ⟨fl, fd, ps, Fn, _, hml, hb⟩ := calM_nil cl
  obtain ⟨ox, od, J⟩ := insAt I ha
  unfold PySem.W.StarOf notIterableAtAll
  refine wpAny_bind (wpAny_bind (J.type.here ((PySem.W.looks_findIn I.kIn hmi.at_).here ?_)))
  refine wpAny_pure ⟨rfl, ?_⟩
  unfold collect
  refine wpAny_bind (wpAny_runValue (codeAny_builtin PySem.F.entry_proto_collect ?_))
  rw [Around.under_plainId PySem.F.plain_proto_collect _]
  show wpAny _ X.A.in1 (newList [] >>= fun l => again (.builtin "list.__iadd__" ⟨[l, .ref a], []⟩)) _ _ s
  refine wpAny_bind (wpAny_newObj_type ?_)
  refine wpAny_pure ⟨plainId_quiet PySem.F.plain_list_iadd _, codeAny_builtin PySem.F.entry_list_iadd ?_⟩
  rw [Around.under_plainId PySem.F.plain_list_iadd _]
  have fr : H s.heap.objs.size = none := I.fresh
  have I1 : Inv X pins σ (upd H s.heap.objs.size (.lst [])) { s with heap := s.heap.push { cls := .type "list", data := .seq #[] } } := I.lnew (its := []) (t' := s.toks) .nil (Nat.zero_le _)
  have hne : s.heap.objs.size ≠ a := ne_of_none ha fr |> Ne.symm
  have ha1 : upd H s.heap.objs.size (.lst []) a = some (.ins (He.ga X.K c) dx gs) := by rw [upd_ne (Ne.symm hne)]; exact ha
  have ht1 : SqT X.K (upd H s.heap.objs.size (.lst [])) t zs := SqT_same (same_upd fr) ht
  generalize hs1 : ({ s with heap := s.heap.push { cls := .type "list", data := .seq #[] } } : Shared) = s1 at I1
  show wpAny _ X.A.in1 (Builtin.List.listExtendWith (.ref s.heap.objs.size) (.ref a) (.ref s.heap.objs.size)) _ _ s1
  generalize hqq : s.heap.objs.size = q at fr I1 hne ha1 ht1
  obtain ⟨ox1, od1, J1⟩ := insAt I1 ha1
  obtain ⟨m1, hF1⟩ := I1.fr
  unfold Builtin.List.listExtendWith
  refine wpAny_bind (J1.type.here ?_)
  have h1 : Builtin.List.listSameRef (.ref q) (.ref a) = false := by simp [Builtin.List.listSameRef, hne]
  have h2 : (Value.ref (He.ga X.K c) == Value.type "list") = false := rfl
  have h3 : (Value.ref (He.ga X.K c) == Value.type "tuple") = false := rfl
  simp only [h1, h2, h3, Bool.or_false, Bool.false_eq_true, if_false]
  have hr1 : Room (j + 1) X.A.in1 := Room.in1 (hr.mono hk)
  refine wpAny_bind (PySem.W.owit_iter hF1 I1.ok.mod.kin J1 hmi.at_ hmi.fn (wpAny_call (codeAny_mono (Fi X.A.in1 X.stack s1 _ a dx t gs zs (hr1.mono (by omega)) I1.env0.in1 I1.kIn ha1 hl ht1) fun z s2 hz' => ?_)))
  match z, hz' with
  | .error _, hz' => exact False.elim hz'
  | .ok (.ret u), hz' =>
    obtain ⟨v2, H2, os, bare, un, hok, r2, it, e1, n1, n2, e2⟩ := hz'
    subst e1
    subst e2
    cases r2
    obtain ⟨hh, gg, dd, tt, os'⟩ := s2
    obtain rfl : os' = s1.os := os
    have I2 : Inv X pins σ (upd (upd H q (.lst [])) it (TiO t it)) ⟨hh, gg, dd, tt, s1.os⟩ := I1.call (h' := hh) (g' := gg) (d' := dd) (t' := tt) (ch := []) un hok bare (fun b z => absurd z (by simp))
    have hit : (upd (upd H q (.lst [])) it (TiO t it)) it = some (TiO t it) := upd_same
    have obj := (I2.hok it _ hit).1
    have hT : Shared.TypeIs ⟨hh, gg, dd, tt, s1.os⟩ (.ref it) "tuple_iterator" := ⟨_, obj, rfl⟩
    have hqi : q ≠ it := fun z => by rw [← z, upd_same] at n1; cases n1
    have hHit : H it = none := by rw [upd_ne (Ne.symm hqi)] at n1; exact n1
    unfold PySem.W.OwitIt
    refine wpAny_specialOf (name := Str.ofString "__next__") hT PySem.F.slot_tuple_iterator_next.lookup ?_
    generalize hs2 : (⟨hh, gg, dd, tt, s1.os⟩ : Shared) = s2 at I2 obj hT
    have ha2 : upd (upd H q (.lst [])) it (TiO t it) a = some (.ins (He.ga X.K c) dx gs) := by rw [upd_ne (fun z => by rw [z, n1] at ha1; cases ha1)]; exact ha1
    obtain ⟨ox2, od2, J2⟩ := insAt I2 ha2
    obtain ⟨m2, hF2⟩ := I2.fr
    refine wpAny_bind (wpAny_holding ?_)
    unfold Builtin.List.listLengthHint
    refine wpAny_bind (wpAny_bind (J2.type.here ((PySem.W.looks_findIn I2.kIn hml.at_).here ?_)))
    refine PySem.W.KFB.if_not rfl ?_
    refine PySem.W.KFB.if_so rfl ?_
    refine wpAny_bind (wpAny_rule ?_)
    refine wpAny_bind (wpAny_attempt ?_)
    refine PySem.W.len_K hF2 I2.ok.mod.kin J2 hml.at_ hml.fn ?_
    refine wpAny_mono (me_runX (n := 1) (vs := [.ref a]) (us := [.ref a]) Fn hb (Room.in1 (k := j) hr1) I2.env0.in1.in1 I2 (.cons rfl .nil) (hq q it fr hHit hqi)) (fun w s3 z => ?_) fun _ _ z => z
    obtain ⟨z', H3, I3, rz, n, rfl, n1', n2', hq3, hit3, ht3, hR⟩ := z
    obtain ⟨tk, rfl⟩ := (show ∃ tk, w = Value.int n tk from rz)
    refine ⟨⟨n1', by omega⟩, ?_⟩
    dsimp only
    refine wpAny_bind (wpAny_of_eq (t := asInt? _) (a := (some n : Option Int)) rfl ?_)
    have hlt : Builtin.List.listTooLong n.toNat = false := notLongL (by rw [sizeLine_eq]; omega)
    have I4 : Inv X pins σ (ItX.dropH H3 it) { s3 with toks := s3.toks + 1 } := (ItX.inv_drop I3 hit3).tok _
    have fp : FpOk X pins (ItX.dropH H3 it) it := ItX.inv_fp I3 hit3 (Nat.le_trans I1.sz n2)
    have q4 : ItX.dropH H3 it q = some (.lst []) := by rw [ItX.dropH_ne hqi]; exact hq3
    have t4 : SqT X.K (ItX.dropH H3 it) t zs := by
      rcases ht3 with (h | ⟨o, h⟩) | h
      · exact .inl (.inl (by rw [ItX.dropH_ne (fun z => by rw [z, hit3] at h; cases h)]; exact h))
      · exact .inl (.inr ⟨o, by rw [ItX.dropH_ne (fun z => by rw [z, hit3] at h; cases h)]; exact h⟩)
      · exact .inr h
    have st : s3.heap.IsTupleIter it t 0 := ⟨_, (I3.hok it _ hit3).1, rfl, rfl⟩
    have fin : ∀ s4 : Shared, Inv X pins σ (ItX.dropH H3 it) s4 → s4.heap.IsTupleIter it t 0 → codeAny (model X.prog X.w) X.A (.builtin "list.extend.loop" ⟨[.ref q, .ref it, .ref q], []⟩) (fun r s' => match r with
        | .ok (.ret v) => wpAny (model X.prog X.w) X.A (match v with
          | .ref a => do
            match (← load a).data with
              | .seq xs _ => pure xs.toList
              | _ => unsupported "internal:collect"
          | _ => unsupported "internal:collect") Q X.xe s'
        | .ok _ => False
        | .error e => X.xe e s') s4 := fun s4 I5 st5 => by
      refine tup_loop (hr.hd) hz zs.length [] zs _ s4 rfl rfl q4 t4 I5 st5 fp fun s' I6 => ?_
      obtain ⟨_, its, n0, rv, _, e⟩ := I6.lstM upd_same
      show wpAny _ X.A (load q >>= _) _ _ s'
      refine wpAny_bind (wpAny_load e ?_)
      exact wpAny_pure (hQ _ s' _ I6 (by simpa using rv) hR)
    refine PySem.W.KFB.if_not hlt (wpAny_pure ?_)
    refine wpAny_ite_split (fun _ => ?_) (fun _ => wpAny_pure ⟨plainId_quiet PySem.F.plain_extend_loop _, fin _ I4 st⟩)
    refine wpAny_bind (wpAny_rule ?_)
    refine wpAny_bind ?_
    show wpAny _ _ (updateSeq q (·.push .none) >>= fun _ => updateSeq q (·.pop)) _ _ _
    obtain ⟨z, its, k3, r3, hl3, e3⟩ := I4.lstM q4
    cases r3
    refine wpAny_bind (wpAny_updateSeq e3 rfl ?_)
    have I5 := I4.lset (f := (·.push Value.none)) (its' := [Value.none]) (ys := [.non]) (t' := s3.toks + 1) q4 e3 (by simp) (.cons rfl .nil) (by rw [List.length_singleton, sizeLine_eq]; decide)
    obtain ⟨z4, its4, k4, r4, hl4, e4⟩ := I5.lstM upd_same
    obtain ⟨u4, rfl, ru4⟩ := r4.one
    refine wpAny_updateSeq e4 rfl ?_ (by show 1 ≤ sizeLine; rw [sizeLine_eq]; decide) (by show 0 ≤ sizeLine + 1; exact Nat.zero_le _)
    have I6 := I5.lset (f := (·.pop)) (its := [u4]) (its' := []) (ys := []) (t' := s3.toks + 1) upd_same e4 (by rfl) .nil (Nat.zero_le _)
    rw [upd_upd] at I6
    have hH : upd (ItX.dropH H3 it) q (.lst []) = ItX.dropH H3 it := by
      funext b
      by_cases hb : b = q
      · rw [hb, upd_same, q4]
      · rw [upd_ne hb]
    rw [hH] at I6
    refine wpAny_pure ⟨plainId_quiet PySem.F.plain_extend_loop _, fin _ I6 ?_⟩
    have n4 : q ≠ it := hqi
    exact (st.at fun o e => (Heap.get?_update_other _ _ n4).trans e).at fun o e => (Heap.get?_update_other _ _ n4).trans e
variable {O : List Nat} {e : Expr} {es : List Expr} {F : Env → Option D} {Fs : Env → Option (List D)}
def aStarI (c g : Str) (mir : List D → Option D) (F : Env → Option D) (Fs : Env → Option (List D)) : Env → Option (List D) := fun ρ => match F ρ with
  | some d => (match fldD c g d with
    | some (.tup xs) => (match mir [d] with
      | some (.int n) => if 0 ≤ n ∧ n ≤ 1000 ∧ xs.length < 1000 then (match Fs ρ with | some ds => some (xs ++ ds) | none => none) else none
      | _ => none)
    | _ => none)
  | none => none
theorem aStarI_some {ρ : Env} {ds : List D} (h : aStarI c g mir F Fs ρ = some ds) : ∃ d xs n ds', F ρ = some d ∧ fldD c g d = some (.tup xs) ∧ mir [d] = some (.int n) ∧ 0 ≤ n ∧ n ≤ 1000 ∧ xs.length < 1000 ∧ Fs ρ = some ds' ∧ ds = xs ++ ds' := by
  unfold aStarI at h
  split at h
  · rename_i d h1
    split at h
    · rename_i xs h2
      split at h
      · rename_i n h3
        split at h
        · rename_i h4
          split at h
          · rename_i ds' h5
            cases h
            exact ⟨d, xs, n, ds', h1, h2, h3, h4.1, h4.2.1, h4.2.2, h5, rfl⟩
          · cases h
        · cases h
      · cases h
    · cases h
  · cases h
theorem fa_starI {p : Pos} (cm : CalI X.prog X.w X.K X.mg X.base j c g) (cl : CalM X.prog X.w X.K X.mg X.base j c "__len__" false 1 mir []) (hr : Room k X.A) (hk : j + 2 ≤ k) (h : FE X O e F) (t : FA X O es Fs)
    (hs : starEach (.Starred e p :: es) X.env = (true, eval e X.env) :: starEach es X.env := by rfl) : FA X O (.Starred e p :: es) (aStarI c g mir F Fs) := by
  intro φ Hf0 H0 ρ σ Hf H ds Q S hF kk
  obtain ⟨d, xs, n, ds', h1, h2, h3, n1, n2, hxl, h5, rfl⟩ := aStarI_some hF
  obtain ⟨fs, ys, rfl, hlk⟩ := fldD_some h2
  refine ⟨fun pos pins s I => ?_⟩
  refine PySem.W.items_star (thn ((h φ Hf0 H0 ρ σ Hf H _ (fun v H1 => ∃ a dx gs t zs, v = .ref a ∧ H1 a = some (.ins (He.ga X.K c) dx gs) ∧ gs.lookup g = some (.ref t) ∧ SqT X.K H1 t zs ∧ zs.length < sizeLine ∧
    ∀ q it, H1 q = none → H1 it = none → q ≠ it → spF X.K false 1 mir [.ref a] (upd (upd H1 q (.lst [])) it (TiO t it)) (fun z H' => ∃ n : Int, z = .int n ∧ 0 ≤ n ∧ n ≤ 1000 ∧ H' q = some (.lst []) ∧ H' it = some (TiO t it) ∧ SqT X.K H' t zs ∧
      (∃ Hf', Gr Hf H Hf' (upd (ItX.dropH H' it) q (.lst zs)) ∧ RpAll X.K φ Hf' xs zs)) (fun _ _ _ => False)) S h1 (fun v Hf1 H1 g1 r1 => ?_)).h pins s I) fun u s1 hu => ?_) hs
  · cases r1 with
    | ins ha hl r =>
      obtain ⟨v, e1, e2⟩ := lkD_ok _ r hlk
      cases e2 with
      | @tup ta _ _ sq rr =>
        refine ⟨_, _, _, _, _, rfl, g1.s _ _ ha, e1, SqT_same g1.s sq, by rw [← rr.length, sizeLine_eq]; omega, fun q it hq hit hne => ?_⟩
        have sm : Same H1 (upd (upd H1 q (.lst [])) it (TiO ta it)) := (same_upd hq).trans (same_upd (by rw [upd_ne (Ne.symm hne)]; exact hit))
        have atq : (upd (upd H1 q (.lst [])) it (TiO ta it)) q = some (.lst []) := by rw [upd_ne hne, upd_same]
        refine ⟨φ, Hf1, _, _, g1.s.trans sm, .cons (.ins ha hl r) .nil, rfl, h3, fun z Hf2 H2 g2 r2 => ?_⟩
        cases r2
        refine ⟨n, rfl, n1, n2, g2.h _ _ atq, g2.h _ _ upd_same, SqT_same g2.h (SqT_same sm (SqT_same g1.s sq)), Hf2, ⟨g1.f.trans g2.f, fun b o z => ?_, fun b o z => ?_, fun b o z zf => ?_⟩, rr.mono g2.f⟩
        · have z1 := g1.h _ _ z
          have bq : b ≠ q := ne_of_none z1 hq
          have bi : b ≠ it := ne_of_none z1 hit
          rw [upd_ne bq, ItX.dropH_ne bi]
          exact g2.h _ _ (sm _ _ z1)
        · have bq : b ≠ q := by
            rintro rfl
            rw [g2.n _ _ atq (g1.s.free hq)] at z; cases z
          have bi : b ≠ it := by
            rintro rfl
            rw [g2.n _ _ upd_same (g1.s.free hit)] at z; cases z
          rw [upd_ne bq, ItX.dropH_ne bi]
          exact g2.s _ _ z
        · exact g2.n _ _ (sm _ _ (g1.h _ _ z)) (g1.n _ _ z zf)
  · obtain ⟨_, H1, I1, rv, a, dx, gs, tt, zs, rfl, ha, hl, hsq, hz, hq⟩ := hu
    cases rv
    refine star_own (R := fun H' => ∃ Hf', Gr Hf H Hf' H' ∧ RpAll X.K φ Hf' xs zs) cm cl hr hk I1 ha hl hsq hz hq fun us s' H' I' rvs ⟨Hf', g', r'⟩ => ?_
    refine thn ((t φ Hf0 H0 ρ σ Hf' H' ds' _ (S.gr g') h5 fun vs Hf2 H2 g2 r2 => kk (zs ++ vs) Hf2 H2 (g'.trans g2) ((r'.mono g2.f).append r2)).h pos pins s' I') fun ws s3 hw => ?_
    obtain ⟨vs, H3, I3, r3, q3⟩ := hw
    exact ⟨zs ++ vs, H3, I3, rvs.append r3, q3⟩
end
end FL
namespace FL
open PySem PySem.Spec L2
section
variable {X : Cx} {O O' O1 : List Nat} {st : Stmt} {G : Env → List Ob → Option MOut}
theorem ms_frz (h : MS X O1 O' st G) (hL : O1.all (O.contains ·) = true) : MS X O O' st G := fun φ B Bf ρ S σ Hf H out Dn M hF P =>
  let ⟨Hf1, s1, M1⟩ := M.weak O1 hL
  h φ B Bf ρ S σ Hf1 H out Dn M1 hF (P.mono (.refl φ) s1)
theorem ms_to (h : MS X O O1 st G) (hL : O'.all (O1.contains ·) = true) : MS X O O' st G := fun φ B Bf ρ S σ Hf H out Dn M hF P => by
  refine h φ B Bf ρ S σ Hf H out Dn M hF ?_
  cases out with
  | nx ρ' S' => exact fun φ' σ' Hf' H' e' s' M' => let ⟨Hf2, s2, M2⟩ := M'.weak O' hL; P φ' σ' Hf2 H' e' (s'.trans s2) M2
  | rt d S' => exact P
end
end FL
namespace FL
open PySem PySem.Spec L2

/-! ### lists that change -/
section
variable {X : Cx} {O O' : List Nat} {e o : Expr} {es : List Expr} {F Fo : Env → Option D} {p pos : Pos} {k : Nat} {M1 : Env → List Ob → Option (D × List Ob)} {A1 : Env → List Ob → Option (List D × List Ob)}
/-- a new list that will change -/
def mLst (F : Env → Option D) : Env → List Ob → Option (D × List Ob) := fun ρ S => match F ρ with
  | some (.lst xs) => some (.obj S.length, S ++ [⟨.lst, "", [], xs⟩])
  | _ => none
theorem me_list (h : FN X O e F) : ME X O e (mLst F) := fun φ B Bf ρ S σ Hf H d S' Q M hF q => by
  unfold mLst at hF
  split at hF
  · rename_i xs hd
    cases hF
    refine h φ _ _ ρ σ Hf H _ _ M.sr hd fun a ys vs Hf1 H1 hl g n1 n2 hs r => ?_
    cases hl
    have M1 := M.gr g
    have hB : B a = none := by
      cases hq : B a with
      | none => rfl
      | some u => rw [M.fb _ _ hq] at n1; cases n1
    have new : ∀ i, φ i ≠ some a := fun i hi => by
      by_cases hl : i < S.length
      · obtain ⟨_, z, _⟩ := M.cl.get ⟨i, hl, hi⟩
        rw [n1] at z; cases z
      · rw [M.cl.out i (by omega)] at hi; cases hi
    have hown : ∀ i d, ρ[i]? = some (some d) → i ∈ O → σ[i]? ≠ some (some (.ref a)) := fun i d hd hi z => by
      obtain ⟨b, xs', vs', q1, q2, q3, _⟩ := M.own i d hd hi
      rw [z] at q2
      cases q2
      rw [n1] at q3; cases q3
    obtain ⟨ex, M2⟩ := M1.add (o := ⟨.lst, "", [], xs⟩) (x := a) ⟨vs, r, hs⟩ n2 hB new hown
    exact q _ (.ref a) Hf1 H1 ex g.f M2 (.obj (by unfold nphi; rw [if_pos rfl]))
  · cases hF
/-! ### a look whose value is a new list -/
def qSnapN (F : Env → Option D) : Env → List Ob → Option (D × List Ob) := fun ρ S => match F (ρ.map (shw S)) with | some (.lst xs) => if noInss xs = true then some (.lst xs, S) else none | _ => none
theorem me_snapN (h : FN X O e F) : ME X O e (qSnapN F) := fun φ B Bf ρ S σ Hf H d S' Q M hF q => by
  unfold qSnapN at hF
  split at hF
  · rename_i xs hd
    split at hF
    · rename_i hn
      cases hF
      refine h φ _ _ _ σ _ H _ _ M.snap hd fun a ys vs Hf1 H1 hl g n1 n2 hs r => ?_
      cases hl
      obtain ⟨M1, s1⟩ := M.back g
      have r' : RpAll X.K φ (ofc φ S Hf1) xs vs := RpAll.cut (fun b o e1 e2 => by
        by_cases hq : ObAt φ S b
        · obtain ⟨u, e3, _, n1, n2⟩ := M.cl.get hq
          have := g.f _ _ ((fzc_at hq).trans e3)
          rw [e1] at this
          cases this
          rcases e2 with ⟨xs, z⟩ | ⟨w, u, z⟩
          · exact absurd z (n1 xs)
          · exact absurd z (n2 w u)
        · rw [ofc_no hq]; exact e1) hn r
      have hno : ¬ ObAt φ S a := fun z => by
        obtain ⟨_, e3, _⟩ := M.cl.get z
        rw [n1] at e3; cases e3
      have nf : ofc φ S Hf1 a = none := (ofc_no hno).trans n2
      have nB : B a = none := by
        cases hq : B a with
        | none => rfl
        | some u => rw [M.fb _ _ hq] at n1; cases n1
      have sm : Same (ofc φ S Hf1) (upd (ofc φ S Hf1) a (.lst vs)) := same_upd nf
      have D : MDone X.K φ B Bf S (upd (ofc φ S Hf1) a (.lst vs)) H1 := by
        refine ⟨fun b u z => ?_, ⟨fun i o z => ?_, M1.cl.inj, M1.cl.out⟩, M1.fb, fun b u z zf => ?_, M1.nb⟩
        · by_cases hb : b = a
          · subst hb; rw [upd_same] at z; cases z; exact hs
          · rw [upd_ne hb] at z; exact M1.sub _ _ z
        · obtain ⟨b, w1, w2, w3⟩ := M1.cl.at_ i o z
          refine ⟨b, w1, ?_, w3.mono (.refl φ) sm⟩
          have hb : b ≠ a := fun hb => hno ⟨i, (List.getElem?_eq_some_iff.mp z).1, by rw [← hb]; exact w1⟩
          rw [upd_ne hb]
          exact w2
        · rw [upd_ne (fun hb => by rw [hb, nB] at z; cases z)]
          exact M1.fn _ _ z zf
      have M2 : MSR X.K φ B Bf O ρ S σ (upd (ofc φ S Hf1) a (.lst vs)) H1 := by
        refine D.msr M1.sr.len (fun i d z n => ?_) (fun i d z m => ?_) M1.sr.ne
        · obtain ⟨v, w1, w2⟩ := M1.sr.val i d z n
          exact ⟨v, w1, w2.mono sm⟩
        · obtain ⟨b, ys, ws, w1, w2, w3, w4, w5, w6, w7⟩ := M1.own i d z m
          obtain ⟨b', _, _, _, y2, y3, _⟩ := M.own i d z m
          rw [w2] at y2
          cases y2
          exact ⟨b, ys, ws, w1, w2, w3, by rw [upd_ne (fun hb => by rw [hb, n1] at y3; cases y3)]; exact w4, w5, w6, w7.mono sm⟩
      exact q φ (.ref a) _ H1 (.refl φ) (s1.trans sm) M2 (.lst upd_same (r'.mono sm))
    · cases hF
  · cases hF
/-! ### loops -/
def mLoop (g : D → Env → Option Env) (G : Env → List Ob → Option MOut) : List D → Env → List Ob → Option MOut
  | [], ρ, S => some (.nx ρ S)
  | d :: ds, ρ, S => match g d ρ with
    | none => none
    | some ρ1 => match G ρ1 S with
      | some (.nx ρ2 S2) => mLoop g G ds ρ2 S2
      | some (.rt d S2) => some (.rt d S2)
      | none => none
def mFor (Fi : Env → Option (List D)) (g : D → Env → Option Env) (G : Env → List Ob → Option MOut) : Env → List Ob → Option MOut := fun ρ S => match Fi ρ with | some ds => mLoop g G ds ρ S | none => none
theorem ms_for {O1 tgs : List Nat} {tg iter : Expr} {body : List Stmt} {Fi : Env → Option (List D)} {g : D → Env → Option Env} {G : Env → List Ob → Option MOut} (hp : PassesOwn (model X.prog X.w) X.A X.env X.xe) (hc : X.calm = true) (hi : FI X O tg iter Fi) (hg : FG X O O1 tgs tg g) (hb : MSs X O1 O body G)
    (hs : ∀ x, foldedSetIterable iter X.env x = pure x := by intro _; rfl) : MS X O O (.For tg iter body [] pos) (mFor Fi g G) := fun φ B Bf ρ S σ Hf H out Dn M hF P => by
  unfold mFor at hF
  split at hF
  · rename_i ds hds
    refine toS (ps_for hp hc piW pgW pssW hs) ?_
    refine hi φ _ _ ρ σ Hf H ds _ M.sr hds fun J Hf1 H1 g1 itd => ?_
    refine ⟨fun i m σ2 H2 => m = ds.length - i ∧ i ≤ ds.length ∧ ∃ φ2 ρ2 S2 Hf2, Ext φ φ2 ∧ Same Hf1 Hf2 ∧ MSR X.K φ2 B Bf O ρ2 S2 σ2 Hf2 H2 ∧ mLoop g G (ds.drop i) ρ2 S2 = some out, ⟨ds.length, by simp, Nat.zero_le _, φ, ρ, S, Hf1, .refl φ, Same.refl _, M.gr g1, by simpa using hF⟩, ?_⟩
    rintro i m σ2 H2 ⟨rfl, hil, φ2, ρ2, S2, Hf2, e2, s2, M2, hl⟩
    by_cases hlt : i < ds.length
    · right
      have hget : ds[i]? = some ds[i] := List.getElem?_eq_getElem hlt
      obtain ⟨hgo, hyld⟩ := (itd i Hf2 H2 s2 M2.sub).2 _ hget
      rw [List.drop_eq_getElem_cons hlt] at hl
      unfold mLoop at hl
      split at hl
      · cases hl
      · rename_i ρ3 hρ3
        refine ⟨hgo, fun σ' H' => ∃ φ' ρ' S' Hf', Ext φ φ' ∧ Same Hf1 Hf' ∧ MSR X.K φ' B Bf O ρ' S' σ' Hf' H' ∧ mLoop g G (ds.drop (i + 1)) ρ' S' = some out, fun σ' H' ⟨φ', ρ', S', Hf', a0, a1, a2, a3⟩ => ⟨ds.length - (i + 1), by omega, rfl, hlt, φ', ρ', S', Hf', a0, a1, a2, a3⟩, fun x H3 hy => ?_⟩
        obtain ⟨Hf3, g3, r3⟩ := hyld x H3 hy
        have s3 := s2.trans g3.f
        have M3 := M2.gr g3
        refine hg φ2 _ _ ρ2 σ2 Hf3 H3 _ x ρ3 _ M3.sr (r3.ext e2) hρ3 fun σ4 S4 _ => ?_
        have M4 := M3.step S4
        split at hl
        · rename_i ρ4 S5 h4
          exact hb φ2 B Bf ρ3 S2 σ4 Hf3 H3 _ _ M4 h4 fun φ' σ' Hf' H' e' s' M' => ⟨φ', ρ4, S5, Hf', e2.trans e', s3.trans s', M', hl⟩
        · rename_i d S5 h4
          cases hl
          exact hb φ2 B Bf ρ3 S2 σ4 Hf3 H3 _ _ M4 h4 fun φ' v Hf' H' e' s' D' r' => P φ' v Hf' H' (e2.trans e') ((g1.f.trans s3).trans s') D' r'
        · cases hl
    · left
      have hie : i = ds.length := by omega
      subst hie
      rw [List.drop_length] at hl
      cases hl
      exact ⟨(itd _ Hf2 H2 s2 M2.sub).1 (Nat.le_refl _), P φ2 σ2 Hf2 H2 e2 (g1.f.trans s2) M2⟩
  · cases hF
end
end FL
namespace FL
open PySem PySem.Spec L2

/-! ### lists that change in place -/
theorem OAt.lst {K : PySem.W.Frag} {φ : Nat → Option Addr} {Hf : Hp} {o : Ob} {x : Option HO} (h : OAt K φ Hf o x) (hk : o.k = .lst) : ∃ vs, x = Option.some (.lst vs) ∧ RpAll K φ Hf o.xs vs := by
  obtain ⟨vs, r, q⟩ := h
  rw [hk] at q
  exact ⟨vs, q, r⟩
section
variable {K : PySem.W.Frag} {φ : Nat → Option Addr} {B Bf : Hp} {O : List Nat} {ρ : Env} {S : List Ob} {σ : L2.St} {Hf H : Hp}
def setL (S : List Ob) (i : Nat) (ys : List D) : List Ob := match S[i]? with | some o => S.set i ⟨o.k, o.c, o.fs, ys⟩ | none => S
theorem MSR.putL {i : Nat} {o : Ob} {a : Addr} {ys : List D} {ws : List V} (M : MSR K φ B Bf O ρ S σ Hf H) (ho : S[i]? = some o) (hk : o.k = .lst) (hp : φ i = some a) (r : RpAll K φ Hf ys ws) :
    MSR K φ B Bf O ρ (setL S i ys) σ Hf (upd H a (.lst ws)) := by
  obtain ⟨a', q1, q3, q0⟩ := M.cl.at_ i o ho
  rw [hp] at q1
  cases q1
  obtain ⟨u, z1, _⟩ := M.cl.get ⟨i, (List.getElem?_eq_some_iff.mp ho).1, hp⟩
  have hi : i < S.length := (List.getElem?_eq_some_iff.mp ho).1
  have hat : ObAt φ S a := ⟨i, hi, hp⟩
  unfold setL
  rw [ho]
  dsimp only
  have len : (S.set i ⟨o.k, o.c, o.fs, ys⟩).length = S.length := List.length_set
  have D : MDone K φ B Bf (S.set i ⟨o.k, o.c, o.fs, ys⟩) Hf (upd H a (.lst ws)) := by
    refine ⟨fun b u e => ?_, ⟨fun j o' e => ?_, M.cl.inj, fun j hj => M.cl.out j (by rw [len] at hj; exact hj)⟩, fun b u e => ?_, M.fn, fun b ⟨j, hj, e⟩ => M.nb b ⟨j, by rw [len] at hj; exact hj, e⟩⟩
    · have hb : b ≠ a := by rintro rfl; rw [q3] at e; cases e
      rw [upd_ne hb]; exact M.sub _ _ e
    · by_cases hji : j = i
      · subst hji
        rw [List.getElem?_set_self hi] at e
        cases e
        refine ⟨a, hp, q3, ws, r, ?_⟩
        rw [hk]
        exact upd_same
      · rw [List.getElem?_set_ne (Ne.symm hji)] at e
        obtain ⟨b, p1, p2, p3⟩ := M.cl.at_ j o' e
        refine ⟨b, p1, p2, ?_⟩
        have hb : b ≠ a := by rintro rfl; exact hji (M.cl.inj _ _ _ p1 hp)
        rw [upd_ne hb]; exact p3
    · have hb : b ≠ a := by rintro rfl; rw [M.nb _ hat] at e; cases e
      rw [upd_ne hb]; exact M.fb _ _ e
  refine D.msr M.sr.len M.sr.val (fun j d' q m => ?_) M.sr.ne
  obtain ⟨b, xs, us, p1, p2, p3, p4, p5, p6, r'⟩ := M.own j d' q m
  have hb : b ≠ a := fun z => p6 (z ▸ hat)
  exact ⟨b, xs, us, p1, p2, by rw [upd_ne hb]; exact p3, p4, p5, fun ⟨j, hj, e⟩ => p6 ⟨j, by rw [len] at hj; exact hj, e⟩, r'⟩
end
section
variable {X : Cx} {O : List Nat} {e : Expr} {es : List Expr} {pos : Pos} {A1 : Env → List Ob → Option (List D × List Ob)}
def mMut (i : Nat) (f : List D → List D → Option (List D)) (A : Env → List Ob → Option (List D × List Ob)) : Env → List Ob → Option MOut := fun ρ S => match ρ[i]? with
  | some (some (.obj t)) => (match S[t]? with
    | some o => if o.k = .lst then (match A ρ S with
      | some (ds, S1) => (match S1[t]? with
        | some o1 => if o1.k = .lst then (match f o1.xs ds with | some ys => some (.nx ρ (setL S1 t ys)) | none => none) else none
        | none => none)
      | none => none) else none
    | none => none)
  | _ => none
/-- xs.m(..) as a statement, xs a list that changes -/
theorem ms_mut {i : Nat} {x : Str} {name : Str} {bid : String} {xpos apos cpos : Pos} {r : V → List V → Hp → VK → Prop} {f : List D → List D → Option (List D)} (hN : X.N[i]? = some x) (hv : Vis X.env.scope x) (hO : O.contains i = false)
    (slot : Slot "list" name bid) (hty : typeOf (.builtin bid) = pure (.type "method_descriptor")) (hm : MtR X bid r)
    (hr : ∀ (φ : Nat → Option Addr) (Hf H : Hp) (a : Addr) (xs ds ys : List D) (vs us : List V) (Q : VK), Same Hf H → H a = some (.lst vs) → RpAll X.K φ Hf xs vs → RpAll X.K φ Hf ds us → f xs ds = some ys → (∀ z ws, RpAll X.K φ Hf ys ws → Q z (upd H a (.lst ws))) → r (.ref a) us H Q)
    (ha : MA X O (e :: es) A1) (hd : (x == ("__debug__" : Str)) = false := by decide +kernel) (hcd : (x == ("__classdict__" : Str)) = false := by decide +kernel)
    (hbase : attributeBase (.Name x xpos) name X.env (eval (.Name x xpos) X.env) = eval (.Name x xpos) X.env := by rfl)
    (hfew : ((backTo cpos (starEach (e :: es) X.env)).all (fun x => !x.1) && (backToKw cpos (keywordEach [] X.env)).all (fun x => x.1.isSome)
      && decide ((e :: es).length + ([] : List Keyword).length + (if ([] : List Keyword).isEmpty then 0 else 1) < 30)) = true := by rfl)
    (hsx : swapsWith (.Call (.Attribute (.Name x xpos) name apos) (e :: es) [] cpos) none pos.line X.env = pure false := by rfl) (hline : (apos.endLine == cpos.line) = true := by rfl) (hs : starEach (e :: es) X.env = (false, eval e X.env) :: starEach es X.env := by rfl) (hplain : (backTo cpos (starEach es X.env)).any (·.1) = false := by rfl) :
    MS X O O (.Expr (.Call (.Attribute (.Name x xpos) name apos) (e :: es) [] cpos) pos) (mMut i f A1) := fun φ B Bf ρ S σ Hf H out Dn M hF P => by
  unfold mMut at hF
  split at hF
  · rename_i t ht
    split at hF
    · rename_i o h1
      split at hF
      · rename_i hk
        split at hF
        · rename_i ds S1 h2
          split at hF
          · rename_i o1 h3
            split at hF
            · rename_i hk1
              split at hF
              · rename_i ys h4
                cases hF
                have hno : i ∉ O := fun z => by
                  have := List.contains_iff_mem.mpr z
                  rw [hO] at this; cases this
                obtain ⟨v, e0, r0⟩ := M.sr.val i _ ht hno
                cases r0 with
                | obj hp =>
                  obtain ⟨b0, w1, w2, w3⟩ := M.cl.at_ _ _ h1
                  rw [hp] at w1
                  cases w1
                  obtain ⟨vs0, w4, _⟩ := w3.lst hk
                  refine toS (ps_expr (pe_bm PySem.F.plainAttrs_list slot hty hm (pe_var hN hv hd hcd) paW hbase hfew hline hs hplain) hsx) ?_
                  refine ⟨_, e0, .inl ⟨rfl, vs0, .inl (.inl w4)⟩, ?_⟩
                  refine ha φ B Bf ρ S σ Hf H ds S1 _ M h2 fun φ1 us Hf1 H1 e1 s1 M1 r1 => ?_
                  obtain ⟨a', y1, y2, y3⟩ := M1.cl.at_ _ _ h3
                  rw [e1 _ _ hp] at y1
                  cases y1
                  obtain ⟨vs1, y4, y5⟩ := y3.lst hk1
                  exact hr φ1 Hf1 H1 _ o1.xs ds ys vs1 us _ M1.sub y4 y5 r1 h4 fun z ws rw' => P φ1 σ Hf1 _ e1 s1 (M1.putL h3 hk1 (e1 _ _ hp) rw')
              · cases hF
            · cases hF
          · cases hF
        · cases hF
      · cases hF
    · cases hF
  · cases hF
def mPutI (i : Nat) (Fi : Env → Option D) (M1 : Env → List Ob → Option (D × List Ob)) : Env → List Ob → Option MOut := fun ρ S => match M1 ρ S with
  | some (d, S1) => (match Fi ρ with
    | some (.int k) => (match ρ[i]? with
      | some (some (.obj t)) => (match S1[t]? with
        | some o => if o.k = .lst then (match ixN o.xs.length k with | some j => some (.nx ρ (setL S1 t (o.xs.set j d))) | none => none) else none
        | none => none)
      | _ => none)
    | _ => none)
  | none => none
/-- xs[i] = e, xs a list that changes -/
theorem ms_putI {i : Nat} {x : Str} {ix : Expr} {xpos spos : Pos} {Fi : Env → Option D} {M1 : Env → List Ob → Option (D × List Ob)} (hN : X.N[i]? = some x) (hv : Vis X.env.scope x) (hO : O.contains i = false) (h : ME X O e M1) (hi : FE X O ix Fi)
    (hd : (x == ("__debug__" : Str)) = false := by decide +kernel) (hcd : (x == ("__classdict__" : Str)) = false := by decide +kernel)
    (hsub : ∀ v, assign (.Subscript (.Name x xpos) ix spos) X.env v = (do
      let ov ← holding [v] (eval (.Name x xpos) X.env)
      let iv ← holding [v, ov] (eval ix X.env)
      standAt spos
      holding [v, ov, iv] (setItem ov iv v)
      release [v, ov, iv] []) := by intro _; rfl)
    (hs : swapsWithSole [.Subscript (.Name x xpos) ix spos] e pos.line X.env = pure false := by rfl) (hw : swappedStores [.Subscript (.Name x xpos) ix spos] e X.env = pure none := by rfl)
    (h1 : (assignEach [.Subscript (.Name x xpos) ix spos] X.env).map (·.2) = [assign (.Subscript (.Name x xpos) ix spos) X.env] := by rfl) :
    MS X O O (.Assign [.Subscript (.Name x xpos) ix spos] e pos) (mPutI i Fi M1) := fun φ B Bf ρ S σ Hf H out Dn M hF P => by
  unfold mPutI at hF
  split at hF
  · rename_i d S1 hd'
    split at hF
    · rename_i k hk
      split at hF
      · rename_i t ht
        split at hF
        · rename_i o h3
          split at hF
          · rename_i hk1
            split at hF
            · rename_i j hj
              cases hF
              have hno : i ∉ O := fun z => by
                have := List.contains_iff_mem.mpr z
                rw [hO] at this; cases this
              obtain ⟨v0, e0, r0⟩ := M.sr.val i _ ht hno
              cases r0 with
              | obj hp =>
                refine toS (ps_asg peW (pg_sub (pe_var hN hv hd hcd) peW set_list hsub) hs hw h1) ?_
                refine h φ B Bf ρ S σ Hf H d S1 _ M hd' fun φ1 v Hf1 H1 e1 s1 M1 r1 => ?_
                refine ⟨_, e0, ?_⟩
                refine hi φ1 _ _ ρ σ Hf1 H1 _ _ M1.sr hk fun z Hf2 H2 g2 r2 => ?_
                cases r2
                have M2 := M1.gr g2
                obtain ⟨b, y1, y2, y3⟩ := M2.cl.at_ _ _ h3
                rw [e1 _ _ hp] at y1
                cases y1
                obtain ⟨vs1, y4, y5⟩ := y3.lst hk1
                refine ⟨_, vs1, k, j, rfl, rfl, y4, by rw [← y5.length]; exact hj, ?_⟩
                exact P φ1 σ Hf2 _ e1 (s1.trans g2.f) (M2.putL h3 hk1 (e1 _ _ hp) (y5.set j (r1.mono g2.f)))
            · cases hF
          · cases hF
        · cases hF
      · cases hF
    · cases hF
  · cases hF
def mMutE (M0 : Env → List Ob → Option (D × List Ob)) (f : List D → List D → Option (List D)) (A : Env → List Ob → Option (List D × List Ob)) : Env → List Ob → Option MOut := fun ρ S => match M0 ρ S with
  | some (.obj t, S0) => (match S0[t]? with
    | some o => if o.k = .lst then (match A ρ S0 with
      | some (ds, S1) => (match S1[t]? with
        | some o1 => if o1.k = .lst then (match f o1.xs ds with | some ys => some (.nx ρ (setL S1 t ys)) | none => none) else none
        | none => none)
      | none => none) else none
    | none => none)
  | _ => none
/-- o.m(..) as a statement, o gives a list that changes -/
theorem ms_mutE {o : Expr} {M0 : Env → List Ob → Option (D × List Ob)} {name : Str} {bid : String} {apos cpos : Pos} {r : V → List V → Hp → VK → Prop} {f : List D → List D → Option (List D)} (hFo : ME X O o M0)
    (slot : Slot "list" name bid) (hty : typeOf (.builtin bid) = pure (.type "method_descriptor")) (hm : MtR X bid r)
    (hr : ∀ (φ : Nat → Option Addr) (Hf H : Hp) (a : Addr) (xs ds ys : List D) (vs us : List V) (Q : VK), Same Hf H → H a = some (.lst vs) → RpAll X.K φ Hf xs vs → RpAll X.K φ Hf ds us → f xs ds = some ys → (∀ z ws, RpAll X.K φ Hf ys ws → Q z (upd H a (.lst ws))) → r (.ref a) us H Q)
    (ha : MA X O (e :: es) A1)
    (hbase : attributeBase o name X.env (eval o X.env) = eval o X.env := by rfl)
    (hfew : ((backTo cpos (starEach (e :: es) X.env)).all (fun x => !x.1) && (backToKw cpos (keywordEach [] X.env)).all (fun x => x.1.isSome)
      && decide ((e :: es).length + ([] : List Keyword).length + (if ([] : List Keyword).isEmpty then 0 else 1) < 30)) = true := by rfl)
    (hsx : swapsWith (.Call (.Attribute o name apos) (e :: es) [] cpos) none pos.line X.env = pure false := by rfl) (hline : (apos.endLine == cpos.line) = true := by rfl) (hs : starEach (e :: es) X.env = (false, eval e X.env) :: starEach es X.env := by rfl) (hplain : (backTo cpos (starEach es X.env)).any (·.1) = false := by rfl) :
    MS X O O (.Expr (.Call (.Attribute o name apos) (e :: es) [] cpos) pos) (mMutE M0 f A1) := fun φ B Bf ρ S σ Hf H out Dn M hF P => by
  unfold mMutE at hF
  split at hF
  · rename_i t S0 ht
    split at hF
    · rename_i o0 h1
      split at hF
      · rename_i hk
        split at hF
        · rename_i ds S1 h2
          split at hF
          · rename_i o1 h3
            split at hF
            · rename_i hk1
              split at hF
              · rename_i ys h4
                cases hF
                refine toS (ps_expr (pe_bm PySem.F.plainAttrs_list slot hty hm peW paW hbase hfew hline hs hplain) hsx) ?_
                refine hFo φ B Bf ρ S σ Hf H _ S0 _ M ht fun φ0 v0 Hf0 H0 e0 s0 M0 r0 => ?_
                cases r0 with
                | obj hp =>
                  obtain ⟨b0, w1, w2, w3⟩ := M0.cl.at_ _ _ h1
                  rw [hp] at w1
                  cases w1
                  obtain ⟨vs0, w4, _⟩ := w3.lst hk
                  refine .inl ⟨rfl, vs0, .inl (.inl w4)⟩ |> fun z => ⟨z, ?_⟩
                  refine ha φ0 B Bf ρ S0 σ Hf0 H0 ds S1 _ M0 h2 fun φ1 us Hf1 H1 e1 s1 M1 r1 => ?_
                  obtain ⟨a', y1, y2, y3⟩ := M1.cl.at_ _ _ h3
                  rw [e1 _ _ hp] at y1
                  cases y1
                  obtain ⟨vs1, y4, y5⟩ := y3.lst hk1
                  exact hr φ1 Hf1 H1 _ o1.xs ds ys vs1 us _ M1.sub y4 y5 r1 h4 fun z ws rw' => P φ1 σ Hf1 _ (e0.trans e1) (s0.trans s1) (M1.putL h3 hk1 (e1 _ _ hp) rw')
              · cases hF
            · cases hF
          · cases hF
        · cases hF
      · cases hF
    · cases hF
  · cases hF
end
end FL
namespace FL
open PySem PySem.Spec L2

/-! ### dicts with text keys: their words -/
section
variable {α β : Type}
def dget (k : Str) : List Str → List α → Option α
  | g :: gs, x :: xs => if g = k then some x else dget k gs xs
  | _, _ => none
def dhas (k : Str) : List Str → Bool
  | [] => false
  | g :: gs => if g = k then true else dhas k gs
def rplX (k : Str) (d : α) : List Str → List α → List α
  | g :: gs, x :: xs => (if g = k then d else x) :: rplX k d gs xs
  | _, xs => xs
def dputK (ks : List Str) (k : Str) : List Str := if dhas k ks = true then ks else ks ++ [k]
def dputX (k : Str) (d : α) (ks : List Str) (xs : List α) : List α := if dhas k ks = true then rplX k d ks xs else xs ++ [d]
def ddelK (k : Str) : List Str → List Str
  | [] => []
  | g :: gs => if g = k then ddelK k gs else g :: ddelK k gs
def ddelX (k : Str) : List Str → List α → List α
  | g :: gs, x :: xs => if g = k then ddelX k gs xs else x :: ddelX k gs xs
  | _, _ => []
theorem rplX_len (k : Str) (d : α) : ∀ (ks : List Str) (xs : List α), (rplX k d ks xs).length = xs.length
  | [], xs => by unfold rplX; rfl
  | _ :: _, [] => rfl
  | g :: gs, x :: xs => by unfold rplX; simp [rplX_len k d gs xs]
theorem dput_len (k : Str) (d : α) {ks : List Str} {xs : List α} (h : ks.length = xs.length) : (dputK ks k).length = (dputX k d ks xs).length := by
  unfold dputK dputX
  split
  · rw [rplX_len]; exact h
  · simp [h]
theorem ddel_len (k : Str) : ∀ {ks : List Str} {xs : List α}, ks.length = xs.length → (ddelK k ks).length = (ddelX k ks xs).length
  | [], _, _ => by unfold ddelX; rfl
  | _ :: _, [], h => by simp at h
  | g :: gs, x :: xs, h => by
    have := ddel_len k (ks := gs) (xs := xs) (by simpa using h)
    show (if g = k then ddelK k gs else g :: ddelK k gs).length = (if g = k then ddelX k gs xs else x :: ddelX k gs xs).length
    by_cases e : g = k
    · rw [if_pos e, if_pos e]; exact this
    · rw [if_neg e, if_neg e]; simp [this]
abbrev kz (ks : List Str) (xs : List α) : List (Key × α) := (ks.map Sum.inr).zip xs
end
theorem valV_kz (k : Str) : ∀ (ks : List Str) (vs : List V), valV (kz ks vs) (.inr k) = dget k ks vs
  | [], _ => by unfold dget; rfl
  | _ :: _, [] => by unfold dget; rfl
  | g :: gs, v :: vs => by
    show valV ((Sum.inr g, v) :: kz gs vs) (.inr k) = _
    unfold dget
    by_cases e : g = k
    · rw [if_pos e, valV_pos (by simpa using e)]
    · rw [if_neg e, valV_neg (by simpa using e)]; exact valV_kz k gs vs
theorem any_kz (k : Str) : ∀ (ks : List Str) (vs : List V), ks.length = vs.length → (kz ks vs).any (fun kv => decide (kv.1 = Sum.inr k)) = dhas k ks
  | [], _, _ => rfl
  | _ :: _, [], h => by simp at h
  | g :: gs, v :: vs, h => by
    show (decide ((Sum.inr g : Key) = Sum.inr k) || (kz gs vs).any _) = _
    rw [any_kz k gs vs (by simpa using h)]
    show _ = (if g = k then true else dhas k gs)
    by_cases e : g = k
    · simp [e]
    · have e' : ¬ (Sum.inr g : Key) = Sum.inr k := by simpa using e
      simp [e, e']
theorem dget_has {α : Type} (k : Str) : ∀ (ks : List Str) (xs : List α), ks.length = xs.length → (dget k ks xs).isSome = dhas k ks
  | [], _, _ => by unfold dget; rfl
  | _ :: _, [], h => by simp at h
  | g :: gs, x :: xs, h => by
    unfold dget dhas
    split
    · rfl
    · exact dget_has k gs xs (by simpa using h)
theorem map_kz (k : Str) (v : V) : ∀ (ks : List Str) (vs : List V), (kz ks vs).map (fun kv => if kv.1 = Sum.inr k then (kv.1, v) else kv) = kz ks (rplX k v ks vs)
  | [], _ => rfl
  | _ :: _, [] => rfl
  | g :: gs, w :: ws => by
    show (if (Sum.inr g : Key) = Sum.inr k then ((Sum.inr g : Key), v) else (Sum.inr g, w)) :: (kz gs ws).map _ = (Sum.inr g, if g = k then v else w) :: kz gs (rplX k v gs ws)
    rw [map_kz k v gs ws]
    by_cases e : g = k
    · subst e; simp
    · have e' : ¬ (Sum.inr g : Key) = Sum.inr k := by simpa using e
      simp [e, e']
theorem zip_snoc {α β : Type} (a : α) (b : β) : ∀ (xs : List α) (ys : List β), xs.length = ys.length → (xs ++ [a]).zip (ys ++ [b]) = xs.zip ys ++ [(a, b)]
  | [], [], _ => rfl
  | [], _ :: _, h => by simp at h
  | _ :: _, [], h => by simp at h
  | x :: xs, y :: ys, h => by simp [zip_snoc a b xs ys (by simpa using h)]
theorem putK_kz (k : Str) (v : V) {ks : List Str} {vs : List V} (h : ks.length = vs.length) : putK (kz ks vs) (.inr k) v = kz (dputK ks k) (dputX k v ks vs) := by
  unfold putK dputK dputX
  rw [any_kz k ks vs h]
  by_cases e : dhas k ks = true
  · rw [if_pos e, if_pos e, if_pos e]
    exact map_kz k v ks vs
  · rw [if_neg e, if_neg e, if_neg e]
    show _ = ((ks ++ [k]).map Sum.inr).zip (vs ++ [v])
    rw [List.map_append]
    exact (zip_snoc _ _ _ _ (by simpa using h)).symm
theorem dropK_kz (k : Str) : ∀ (ks : List Str) (vs : List V), dropK (kz ks vs) (.inr k) = kz (ddelK k ks) (ddelX k ks vs)
  | [], _ => rfl
  | g :: gs, [] => by
    show [] = ((ddelK k (g :: gs)).map Sum.inr).zip (ddelX k (g :: gs) ([] : List V))
    unfold ddelX
    simp
  | g :: gs, v :: vs => by
    have ih := dropK_kz k gs vs
    unfold dropK at ih ⊢
    show List.filter (fun kv => decide (kv.1 ≠ Sum.inr k)) (((Sum.inr g : Key), v) :: kz gs vs) = _
    rw [List.filter_cons]
    unfold ddelK ddelX
    by_cases e : g = k
    · rw [if_pos e, if_pos e]
      have : ¬ (decide (((Sum.inr g : Key), v).1 ≠ Sum.inr k) = true) := by simp [e]
      rw [if_neg this, ih]
    · rw [if_neg e, if_neg e]
      have : decide (((Sum.inr g : Key), v).1 ≠ Sum.inr k) = true := by simp [e]
      rw [if_pos this, ih]
      rfl
section
variable {K : PySem.W.Frag} {φ : Nat → Option Addr} {H : Hp}
theorem RpAll.dget (k : Str) : ∀ (ks : List Str) {xs : List D} {vs : List V}, RpAll K φ H xs vs → (∀ d, FL.dget k ks xs = some d → ∃ v, FL.dget k ks vs = some v ∧ Rp K φ H d v) ∧ (FL.dget k ks xs = none → FL.dget k ks vs = none)
  | [], _, _, r => by unfold FL.dget; exact ⟨fun _ h => (nomatch h), fun _ => rfl⟩
  | _ :: _, _, _, .nil => by unfold FL.dget; exact ⟨fun _ h => (nomatch h), fun _ => rfl⟩
  | g :: gs, _, _, .cons r t => by
    unfold FL.dget
    by_cases e : g = k
    · rw [if_pos e, if_pos e]; exact ⟨fun d h => by cases h; exact ⟨_, rfl, r⟩, fun h => nomatch h⟩
    · rw [if_neg e, if_neg e]; exact RpAll.dget k gs t
theorem RpAll.rplX {k : Str} {d : D} {v : V} (q : Rp K φ H d v) : ∀ (ks : List Str) {xs : List D} {vs : List V}, RpAll K φ H xs vs → RpAll K φ H (FL.rplX k d ks xs) (FL.rplX k v ks vs)
  | [], _, _, r => by unfold FL.rplX; exact r
  | _ :: _, _, _, .nil => .nil
  | g :: gs, _, _, .cons r t => by
    unfold FL.rplX
    split
    · exact .cons q (RpAll.rplX q gs t)
    · exact .cons r (RpAll.rplX q gs t)
theorem RpAll.dputX {k : Str} {d : D} {v : V} (q : Rp K φ H d v) {ks : List Str} {xs : List D} {vs : List V} (r : RpAll K φ H xs vs) : RpAll K φ H (FL.dputX k d ks xs) (FL.dputX k v ks vs) := by
  unfold FL.dputX
  split
  · exact r.rplX q ks
  · exact r.append (.one q)
theorem RpAll.ddelX {k : Str} : ∀ (ks : List Str) {xs : List D} {vs : List V}, RpAll K φ H xs vs → RpAll K φ H (FL.ddelX k ks xs) (FL.ddelX k ks vs)
  | [], _, _, r => by unfold FL.ddelX; exact .nil
  | _ :: _, _, _, .nil => by unfold FL.ddelX; exact .nil
  | g :: gs, _, _, .cons r t => by
    unfold FL.ddelX
    split
    · exact RpAll.ddelX gs t
    · exact .cons r (RpAll.ddelX gs t)
end
theorem rd_mono {H H' : Hp} (e : Same H H') {a : Addr} {u : HO} (h : Rd H a u) : Rd H' a u := h.imp (e _ _) fun ⟨o, h⟩ => ⟨o, e _ _ h⟩
theorem dget_rd {H : Hp} {a : Addr} {kvs : List (Key × V)} {k : Key} (e : Rd H a (.dK kvs)) : DGet H a (kV k) (valV kvs k) := .inl ⟨kvs, k, e, rfl, rfl⟩
/-! ### a dict that is not changed any more -/
def dgetD (x y : D) : Option D := match x, y with | .dct ks xs, .str k => dget k ks xs | _, _ => none
def dget1D (x y : D) : Option D := match x, y with | .dct ks xs, .str k => (match dget k ks xs with | some d => some d | none => if dhas k ks = false then some .non else none) | _, _ => none
def dinD (neg : Bool) (y x : D) : Option D := match x, y with | .dct ks xs, .str k => some (.bl (if neg = true then !dhas k ks else dhas k ks)) | _, _ => none
section
variable {X : Cx} {O : List Nat} {o i e : Expr} {F G : Env → Option D} {p pos apos cpos : Pos}
theorem fe_dget (hu : X.A.units + 64 < cLine) (ho : FE X O o F) (hi : FE X O i G) (hs : NoSl i := by intro _ _; rfl) : FE X O (.Subscript o i pos) (e2 dgetD F G) := fun φ Hf0 H0 ρ σ Hf H d Q S hF k => by
  obtain ⟨x, y, h1, h2, h3⟩ := e2_some hF
  unfold dgetD at h3
  split at h3
  · rename_i ks xs z
    refine toE (pe_dget (by omega) peW peW hs) ?_
    refine ho φ Hf0 H0 ρ σ Hf H _ _ S h1 fun v1 Hf1 H1 g1 r1 => ?_
    refine hi φ Hf0 H0 ρ σ Hf1 H1 _ _ (S.gr g1) h2 fun v2 Hf2 H2 g2 r2 => ?_
    have r1' := r1.mono g2.f
    cases r2
    cases r1' with
    | @dct a _ vs _ q l r =>
      obtain ⟨v, e1, r3⟩ := (RpAll.dget z ks r).1 _ h3
      exact ⟨a, v, rfl, by have := dget_rd (k := .inr z) (rd_mono g2.s q); rw [valV_kz, e1] at this; exact this, k v Hf2 H2 (g1.trans g2) r3⟩
  · cases h3
theorem fe_dget1 (hu : X.A.units + 64 < cLine) (ho : FE X O o F) (he : FE X O e G) (m : M1 X o "get" apos e cpos := by exact ⟨rfl, rfl, rfl, rfl⟩) : FE X O (.Call (.Attribute o "get" apos) [e] [] cpos) (e2 dget1D F G) := fun φ Hf0 H0 ρ σ Hf H d Q S hF k => by
  obtain ⟨x, y, h1, h2, h3⟩ := e2_some hF
  unfold dget1D at h3
  split at h3
  · rename_i ks xs z
    refine toE (pe_dget1 (by omega) peW peW m) ?_
    refine ho φ Hf0 H0 ρ σ Hf H _ _ S h1 fun v1 Hf1 H1 g1 r1 => ?_
    cases r1 with
    | @dct a _ vs _ q l r =>
      refine ⟨a, rfl, .inl ⟨_, rd_mono g1.s q⟩, ?_⟩
      refine he φ Hf0 H0 ρ σ Hf1 H1 _ _ (S.gr g1) h2 fun v2 Hf2 H2 g2 r2 => ?_
      cases r2
      have D := dget_rd (k := .inr z) (rd_mono g2.s (rd_mono g2.f q))
      rw [valV_kz] at D
      split at h3
      · rename_i d' hd
        cases h3
        obtain ⟨v, e1, r3⟩ := (RpAll.dget z ks r).1 _ hd
        exact ⟨_, D, k _ Hf2 H2 (g1.trans g2) (by rw [e1]; exact r3.mono g2.f)⟩
      · rename_i hd
        split at h3
        · cases h3
          have e1 := (RpAll.dget z ks r).2 hd
          exact ⟨_, D, k _ Hf2 H2 (g1.trans g2) (by rw [e1]; exact .non)⟩
        · cases h3
  · cases h3
theorem fe_din (hu : X.A.units + 64 < cLine) (hi : FE X O i F) (ho : FE X O o G) (hm : behindInMarks .In o = false := by with_unfolding_all rfl) : FE X O (.Compare i [.In] [o] pos) (e2 (dinD false) F G) := fun φ Hf0 H0 ρ σ Hf H d Q S hF k => by
  obtain ⟨x, y, h1, h2, h3⟩ := e2_some hF
  unfold dinD at h3
  split at h3
  · rename_i _ _ ks xs z
    cases h3
    refine toE (pe_cmp (pc_din (by omega) peW peW) hm) ?_
    refine hi φ Hf0 H0 ρ σ Hf H _ _ S h1 fun v1 Hf1 H1 g1 r1 => ?_
    refine ho φ Hf0 H0 ρ σ Hf1 H1 _ _ (S.gr g1) h2 fun v2 Hf2 H2 g2 r2 => ?_
    cases r1
    cases r2 with
    | @dct a _ vs _ q l r =>
      have D := dget_rd (k := .inr z) (rd_mono g2.s q)
      rw [valV_kz] at D
      refine ⟨a, _, rfl, D, ?_⟩
      rw [dget_has z ks vs l]
      exact k _ Hf2 H2 (g1.trans g2) (.bl _)
  · cases h3
theorem ft_din (hu : X.A.units + 64 < cLine) (hi : FE X O i F) (ho : FE X O o G) (hm : behindInMarks .In o = false := by with_unfolding_all rfl) : FT X O (.Compare i [.In] [o] pos) (FL.tB blD (e2 (dinD false) F G)) := fun φ Hf0 H0 ρ σ Hf H b Q S hF k => by
  obtain ⟨d, hd', hc⟩ := tB_some hF
  obtain ⟨x, y, h1, h2, h3⟩ := e2_some hd'
  unfold dinD at h3
  split at h3
  · rename_i _ _ ks xs z
    cases h3
    cases hc
    refine toT (pt_cmp (pc_din (by omega) peW peW) hm) ?_
    refine hi φ Hf0 H0 ρ σ Hf H _ _ S h1 fun v1 Hf1 H1 g1 r1 => ?_
    refine ho φ Hf0 H0 ρ σ Hf1 H1 _ _ (S.gr g1) h2 fun v2 Hf2 H2 g2 r2 => ?_
    cases r1
    cases r2 with
    | @dct a _ vs _ q l r =>
      have D := dget_rd (k := .inr z) (rd_mono g2.s q)
      rw [valV_kz] at D
      refine ⟨a, _, rfl, D, _, rfl, ?_⟩
      rw [dget_has z ks vs l]
      exact k Hf2 H2 (g1.trans g2)
  · cases h3
theorem ft_dnotin (hu : X.A.units + 64 < cLine) (hi : FE X O i F) (ho : FE X O o G) (hm : behindInMarks .NotIn o = false := by with_unfolding_all rfl) : FT X O (.Compare i [.NotIn] [o] pos) (FL.tB blD (e2 (dinD true) F G)) := fun φ Hf0 H0 ρ σ Hf H b Q S hF k => by
  obtain ⟨d, hd', hc⟩ := tB_some hF
  obtain ⟨x, y, h1, h2, h3⟩ := e2_some hd'
  unfold dinD at h3
  split at h3
  · rename_i _ _ ks xs z
    cases h3
    cases hc
    refine toT (pt_cmp (pc_dnotin (by omega) peW peW) hm) ?_
    refine hi φ Hf0 H0 ρ σ Hf H _ _ S h1 fun v1 Hf1 H1 g1 r1 => ?_
    refine ho φ Hf0 H0 ρ σ Hf1 H1 _ _ (S.gr g1) h2 fun v2 Hf2 H2 g2 r2 => ?_
    cases r1
    cases r2 with
    | @dct a _ vs _ q l r =>
      have D := dget_rd (k := .inr z) (rd_mono g2.s q)
      rw [valV_kz] at D
      refine ⟨a, _, rfl, D, _, rfl, ?_⟩
      rw [dget_has z ks vs l]
      exact k Hf2 H2 (g1.trans g2)
  · cases h3
end
/-! ### new dicts -/
def FD (X : Cx) (O : List Nat) (e : Expr) (F : Env → Option D) : Prop :=
  ∀ (φ : Nat → Option Addr) (Hf0 H0 : Hp) (ρ : Env) (σ : L2.St) (Hf H : Hp) (d : D) (Q : VK), SR X.K φ Hf0 H0 O ρ σ Hf H → F ρ = some d →
    (∀ a ks xs vs Hf' H', d = .dct ks xs → Gr Hf H Hf' H' → H a = none → Hf' a = none → H' a = some (.dK (kz ks vs)) → ks.length = vs.length → RpAll X.K φ Hf' xs vs → Q (.ref a) H') → wE X e σ H Q
def dcL (g : D → Env → Option Env) (T : Env → Option Bool) (Kf E : Env → Option D) (ρ : Env) : List D → List Str → List D → Option (List Str × List D)
  | [], ks, xs => some (ks, xs)
  | d :: ds, ks, xs => match g d ρ with
    | none => none
    | some ρ1 => match T ρ1 with
      | none => none
      | some false => dcL g T Kf E ρ ds ks xs
      | some true => match Kf ρ1 with
        | some (.str k) => (match E ρ1 with
          | some y => if ks.length < 1000 then dcL g T Kf E ρ ds (dputK ks k) (dputX k y ks xs) else none
          | none => none)
        | _ => none
def eDc (vs : List Nat) (Fi : Env → Option (List D)) (g : D → Env → Option Env) (T : Env → Option Bool) (Kf E : Env → Option D) : Env → Option D := fun ρ => match Fi ρ with
  | some ds => if ds.length < 1000000 then (match dcL g T Kf E (wipeE ρ vs) ds [] [] with | some (ks, xs) => some (.dct ks xs) | none => none) else none
  | none => none
section
variable {X : Cx} {O O2 : List Nat} {tg iter kx elt : Expr} {scope : Scope} {own : List (Str × Nat)} {pos : Pos}
theorem dc_go0 {wi : TI} {tt : TT} {g : D → Env → Option Env} {T : Env → Option Bool} {Kf E : Env → Option D} {tgs vs : List Nat} {ds : List D}
    (hw : ∀ (σ : L2.St) (H : Hp) (R : It → Hp → Prop), wI X tg iter σ H R → wi σ H R)
    (hg : ∀ s H C cl fp, FG (X.blk s H scope (compEnvC scope cl C X.env) fp) O O2 tgs tg g) (htg : ∀ i ∈ tgs, i ∈ vs)
    (ht : ∀ (φ : Nat → Option Addr) (Hf0 H0 : Hp) (ρ : Env) (σ : L2.St) (Hf H : Hp) (b : Bool) (Q : Bool → Hp → Prop), SR X.K φ Hf0 H0 O2 ρ σ Hf H → T ρ = some b → (∀ Hf' H', Gr Hf H Hf' H' → Q b H') → tt σ H Q)
    (hk : ∀ s H C cl fp, FE (X.blk s H scope (compEnvC scope cl C X.env) fp) O2 kx Kf) (he : ∀ s H C cl fp, FE (X.blk s H scope (compEnvC scope cl C X.env) fp) O2 elt E)
    {φ : Nat → Option Addr} {Hf0 H0 : Hp} {ρ : Env} {σ : L2.St} {Hf H : Hp} {d : D} {Q : VK} (S : SR X.K φ Hf0 H0 O ρ σ Hf H) {kso : List Str} {xso : List D} (hys : dcL g T Kf E (wipeE ρ vs) ds [] [] = some (kso, xso)) (hd : d = .dct kso xso)
    (hi : ∀ R : It → Hp → Prop, (∀ J Hf' H', Gr Hf H Hf' H' → ItB X.K φ Hf' H' ds J → R J H') → wI X tg iter σ H R)
    (k : ∀ a ks xs us Hf' H', d = .dct ks xs → Gr Hf H Hf' H' → H a = none → Hf' a = none → H' a = some (.dK (kz ks us)) → ks.length = us.length → RpAll X.K φ Hf' xs us → Q (.ref a) H') : tDc wi (uG X scope tg) tt (uE X scope kx) (uE X scope elt) vs σ H Q := by
  subst hd
  refine hw σ H _ (hi _ fun J Hf1 H1 g1 itb => ?_)
  intro Dn hDn
  refine ⟨fun i m H2 => m = ds.length - i ∧ i ≤ ds.length ∧ ∃ Hf2 ks xs us, Gr Hf1 H1 Hf2 H2 ∧ Hf2 Dn = none ∧ H2 Dn = some (.dK (kz ks us)) ∧ ks.length = us.length ∧ RpAll X.K φ Hf2 xs us ∧ dcL g T Kf E (wipeE ρ vs) (ds.drop i) ks xs = some (kso, xso),
    ⟨ds.length, by simp, Nat.zero_le _, Hf1, [], [], [], .own g1.s hDn, g1.s.free hDn, upd_same, rfl, .nil, by simpa using hys⟩, ?_⟩
  rintro i m H2 ⟨rfl, hil, Hf2, ks, xs, us, g2, hf2, hh2, hl2, r2, hrest⟩
  by_cases hlt : i < ds.length
  · right
    have hget : ds[i]? = some ds[i] := List.getElem?_eq_getElem hlt
    obtain ⟨hgo, hyld⟩ := (itb i Hf2 H2 g2).2 _ hget
    refine ⟨hgo, fun H' => ∃ Hf3 ks' xs' us', Gr Hf1 H1 Hf3 H' ∧ Hf3 Dn = none ∧ H' Dn = some (.dK (kz ks' us')) ∧ ks'.length = us'.length ∧ RpAll X.K φ Hf3 xs' us' ∧ dcL g T Kf E (wipeE ρ vs) (ds.drop (i + 1)) ks' xs' = some (kso, xso),
      fun H' ⟨Hf3, ks', xs', us', a1, a2, a3, a4, a5, a6⟩ => ⟨ds.length - (i + 1), by omega, rfl, hlt, Hf3, ks', xs', us', a1, a2, a3, a4, a5, a6⟩, fun x H3 hy => ?_⟩
    obtain ⟨Hf3, g3, r3⟩ := hyld x H3 hy
    have g13 := g2.trans g3
    have S3 := ((S.gr g1).gr g13).wipe vs
    rw [List.drop_eq_getElem_cons hlt] at hrest
    unfold dcL at hrest
    split at hrest
    · cases hrest
    · rename_i ρ2 hρ2
      intro s0 h0 C0 cl0 fp0
      refine hg s0 h0 C0 cl0 fp0 φ Hf0 H0 _ _ Hf3 H3 _ x ρ2 _ S3 r3 hρ2 fun σ2 S4 w4 => ⟨(w4 vs htg).trans wipe_wipe, ?_⟩
      split at hrest
      · cases hrest
      · rename_i hT
        refine ht φ Hf0 H0 ρ2 σ2 Hf3 H3 false _ S4 hT fun Hf4 H4 g4 => ?_
        refine iteF ⟨Hf4, ks, xs, us, g13.trans g4, ?_, ?_, hl2, (r2.mono g3.f).mono g4.f, hrest⟩
        · exact (g3.trans g4).n _ _ hh2 hf2
        · exact (g3.trans g4).h _ _ hh2
      · rename_i hT
        split at hrest
        · rename_i z hz
          split at hrest
          · rename_i y hy2
            split at hrest
            · rename_i hsm
              refine ht φ Hf0 H0 ρ2 σ2 Hf3 H3 true _ S4 hT fun Hf4 H4 g4 => iteT ?_
              intro s1 h1 C1 cl1 fp1
              refine hk s1 h1 C1 cl1 fp1 φ Hf0 H0 ρ2 σ2 Hf4 H4 _ _ (S4.gr g4) hz fun v1 Hf5 H5 g5 r5 => ?_
              intro s2 h2 C2 cl2 fp2
              refine he s2 h2 C2 cl2 fp2 φ Hf0 H0 ρ2 σ2 Hf5 H5 y _ ((S4.gr g4).gr g5) hy2 fun v Hf6 H6 g6 r6 => ?_
              have g36 := g3.trans (g4.trans (g5.trans g6))
              have hh6 := g36.h _ _ hh2
              have hf6 := g36.n _ _ hh2 hf2
              cases r5
              refine ⟨kz ks us, .inr z, rfl, hh6, by rw [List.length_zip, List.length_map, sizeLine_eq]; omega, Hf6, dputK ks z, dputX z y ks xs, dputX z v ks us, ?_, hf6, ?_, dput_len z v hl2, (r2.mono g36.f).dputX r6, hrest⟩
              · have gg := g2.trans g36
                refine ⟨gg.f, fun b o e => ?_, fun b o e => ?_, gg.n⟩
                · rw [upd_ne (ne_of_none e hDn)]; exact gg.h _ _ e
                · rw [upd_ne (ne_of_none e hf6)]; exact gg.s _ _ e
              · rw [upd_same, putK_kz z v hl2]
            · cases hrest
          · cases hrest
        · cases hrest
  · left
    have hie : i = ds.length := by omega
    refine ⟨(itb i Hf2 H2 g2).1 (by omega), ?_⟩
    subst hie
    rw [List.drop_length] at hrest
    cases hrest
    exact k Dn _ _ us Hf2 H2 rfl (g1.trans g2) (g1.h.free hDn) hf2 hh2 hl2 r2
theorem dc_go {wi : TI} {tt : TT} {Fi : Env → Option (List D)} {g : D → Env → Option Env} {T : Env → Option Bool} {Kf E : Env → Option D} {tgs vs : List Nat}
    (hw : ∀ (σ : L2.St) (H : Hp) (R : It → Hp → Prop), wI X tg iter σ H R → wi σ H R)
    (hi : FIB X O tg iter Fi) (hg : ∀ s H C cl fp, FG (X.blk s H scope (compEnvC scope cl C X.env) fp) O O2 tgs tg g) (htg : ∀ i ∈ tgs, i ∈ vs)
    (ht : ∀ (φ : Nat → Option Addr) (Hf0 H0 : Hp) (ρ : Env) (σ : L2.St) (Hf H : Hp) (b : Bool) (Q : Bool → Hp → Prop), SR X.K φ Hf0 H0 O2 ρ σ Hf H → T ρ = some b → (∀ Hf' H', Gr Hf H Hf' H' → Q b H') → tt σ H Q)
    (hk : ∀ s H C cl fp, FE (X.blk s H scope (compEnvC scope cl C X.env) fp) O2 kx Kf) (he : ∀ s H C cl fp, FE (X.blk s H scope (compEnvC scope cl C X.env) fp) O2 elt E)
    {φ : Nat → Option Addr} {Hf0 H0 : Hp} {ρ : Env} {σ : L2.St} {Hf H : Hp} {d : D} {Q : VK} (S : SR X.K φ Hf0 H0 O ρ σ Hf H) (hF : eDc vs Fi g T Kf E ρ = some d)
    (k : ∀ a ks xs us Hf' H', d = .dct ks xs → Gr Hf H Hf' H' → H a = none → Hf' a = none → H' a = some (.dK (kz ks us)) → ks.length = us.length → RpAll X.K φ Hf' xs us → Q (.ref a) H') : tDc wi (uG X scope tg) tt (uE X scope kx) (uE X scope elt) vs σ H Q := by
  unfold eDc at hF
  split at hF
  · rename_i ds hds
    split at hF
    · split at hF
      · rename_i kso xso hys
        exact dc_go0 hw hg htg ht hk he S hys (Option.some.inj hF).symm (fun R h => hi φ Hf0 H0 ρ σ Hf H ds R S hds h) k
      · cases hF
    · cases hF
  · cases hF
theorem fd_dc {Fi : Env → Option (List D)} {g : D → Env → Option Env} {Kf E : Env → Option D} {tgs : List Nat} (hc : X.calm = true) (hN : X.N.Nodup) (ok : BlkOk X.N X.env.scope scope own)
    (hi : FIB X O tg iter Fi) (hg : ∀ s H C cl fp, FG (X.blk s H scope (compEnvC scope cl C X.env) fp) O O2 tgs tg g) (hk : ∀ s H C cl fp, FE (X.blk s H scope (compEnvC scope cl C X.env) fp) O2 kx Kf) (he : ∀ s H C cl fp, FE (X.blk s H scope (compEnvC scope cl C X.env) fp) O2 elt E)
    (htg : (tgs.all fun i => (own.map (·.2)).contains i) = true) (hs : ∀ x, foldedSetIterable iter X.env x = pure x := by intro _; rfl) : FD X O (.DictComp kx elt [⟨tg, iter, [], 0⟩] scope pos) (eDc (own.map (·.2)) Fi g tYesE Kf E) := by
  intro φ Hf0 H0 ρ σ Hf H d Q S hF k
  refine toE (pe_dc (wi := wI X tg iter) (g := uG X scope tg) (tt := tYes) (tk := uE X scope kx) (tv := uE X scope elt) hc hN piW ok (fun s H C cl fp => ⟨fun pins s' σ H' v u Q I r h => (h s H C cl fp).h pins s' u I r⟩) (fun _ _ _ _ _ => pts_nil) (fun s H C cl fp => ⟨fun pins s' σ H' Q I h => (h s H C cl fp).h pins s' I⟩) (fun s H C cl fp => ⟨fun pins s' σ H' Q I h => (h s H C cl fp).h pins s' I⟩) hs) ?_
  exact dc_go (fun _ _ _ h => h) hi hg (fun i hi => by simpa using (List.all_eq_true.mp htg) i hi) (fun φ Hf0 H0 ρ σ Hf H b Q S h k => by cases h; exact k Hf H (.refl S.sub)) hk he S hF k
theorem fd_dcIf {c : Expr} {T : Env → Option Bool} {Fi : Env → Option (List D)} {g : D → Env → Option Env} {Kf E : Env → Option D} {tgs : List Nat} (hc : X.calm = true) (hN : X.N.Nodup) (ok : BlkOk X.N X.env.scope scope own)
    (hi : FIB X O tg iter Fi) (hg : ∀ s H C cl fp, FG (X.blk s H scope (compEnvC scope cl C X.env) fp) O O2 tgs tg g) (ht : ∀ s H C cl fp, FT (X.blk s H scope (compEnvC scope cl C X.env) fp) O2 c T) (hk : ∀ s H C cl fp, FE (X.blk s H scope (compEnvC scope cl C X.env) fp) O2 kx Kf) (he : ∀ s H C cl fp, FE (X.blk s H scope (compEnvC scope cl C X.env) fp) O2 elt E)
    (htg : (tgs.all fun i => (own.map (·.2)).contains i) = true) (hs : ∀ x, foldedSetIterable iter X.env x = pure x := by intro _; rfl) : FD X O (.DictComp kx elt [⟨tg, iter, [c], 0⟩] scope pos) (eDc (own.map (·.2)) Fi g T Kf E) := by
  intro φ Hf0 H0 ρ σ Hf H d Q S hF k
  refine toE (pe_dc (wi := wI X tg iter) (g := uG X scope tg) (tt := uT X scope c) (tk := uE X scope kx) (tv := uE X scope elt) hc hN piW ok (fun s H C cl fp => ⟨fun pins s' σ H' v u Q I r h => (h s H C cl fp).h pins s' u I r⟩) (fun s H C cl fp => pts_one ⟨fun pins s' σ H' Q I h => (h s H C cl fp).h pins s' I⟩) (fun s H C cl fp => ⟨fun pins s' σ H' Q I h => (h s H C cl fp).h pins s' I⟩) (fun s H C cl fp => ⟨fun pins s' σ H' Q I h => (h s H C cl fp).h pins s' I⟩) hs) ?_
  exact dc_go (fun _ _ _ h => h) hi hg (fun i hi => by simpa using (List.all_eq_true.mp htg) i hi) (fun φ Hf0 H0 ρ σ Hf H b Q S h k s0 h0 C0 cl0 fp0 => ht s0 h0 C0 cl0 fp0 φ Hf0 H0 ρ σ Hf H b Q S h k) hk he S hF k
end
section
variable {X : Cx} {O : List Nat} {e : Expr} {F : Env → Option D} {pos : Pos}
theorem fe_of_fd (h : FD X O e F) : FE X O e F := fun φ Hf0 H0 ρ σ Hf H d Q S hF k => h φ Hf0 H0 ρ σ Hf H d Q S hF fun a ks xs vs Hf' H' hd g h1 h2 h3 hl r => by
  subst hd
  have sf : Same Hf' (upd Hf' a (.dK (kz ks vs))) := same_upd h2
  refine k (.ref a) (upd Hf' a (.dK (kz ks vs))) H' ⟨g.f.trans sf, g.h, fun b u q => ?_, fun b u q1 q2 => ?_⟩ (.dct (.inl upd_same) hl (r.mono sf))
  · by_cases hb : b = a
    · subst hb; rw [upd_same] at q; cases q; exact h3
    · rw [upd_ne hb] at q; exact g.s _ _ q
  · rw [upd_ne (ne_of_none q1 h1)]; exact g.n b u q1 q2
theorem fd_empty : FD X O (.Dict [] [] pos) (eC (.dct [] [])) := fun φ Hf0 H0 ρ σ Hf H d Q S hF k => by
  cases hF
  refine toE pe_dnewK fun p hp => ?_
  exact k p [] [] [] Hf (upd H p (.dK [])) rfl ⟨Same.refl _, same_upd hp, S.sub.trans (same_upd hp), fun _ _ _ z => z⟩ hp (S.sub.free hp) upd_same rfl .nil
/-- a new dict that will change -/
def mDct (F : Env → Option D) : Env → List Ob → Option (D × List Ob) := fun ρ S => match F ρ with
  | some (.dct ks xs) => some (.obj S.length, S ++ [⟨.dic, "", ks, xs⟩])
  | _ => none
theorem me_dict (h : FD X O e F) : ME X O e (mDct F) := fun φ B Bf ρ S σ Hf H d S' Q M hF q => by
  unfold mDct at hF
  split at hF
  · rename_i ks xs hd
    cases hF
    refine h φ _ _ ρ σ Hf H _ _ M.sr hd fun a ks' xs' vs Hf1 H1 hl g n1 n2 hs hln r => ?_
    cases hl
    have M1 := M.gr g
    have hB : B a = none := by
      cases hq : B a with
      | none => rfl
      | some u => rw [M.fb _ _ hq] at n1; cases n1
    have new : ∀ i, φ i ≠ some a := fun i hi => by
      by_cases hl : i < S.length
      · obtain ⟨_, z, _⟩ := M.cl.get ⟨i, hl, hi⟩
        rw [n1] at z; cases z
      · rw [M.cl.out i (by omega)] at hi; cases hi
    have hown : ∀ i d, ρ[i]? = some (some d) → i ∈ O → σ[i]? ≠ some (some (.ref a)) := fun i d hd hi z => by
      obtain ⟨b, xs', vs', q1, q2, q3, _⟩ := M.own i d hd hi
      rw [z] at q2
      cases q2
      rw [n1] at q3; cases q3
    obtain ⟨ex, M2⟩ := M1.add (o := ⟨.dic, "", ks, xs⟩) (x := a) ⟨vs, r, hln, hs⟩ n2 hB new hown
    exact q _ (.ref a) Hf1 H1 ex g.f M2 (.obj (by unfold nphi; rw [if_pos rfl]))
  · cases hF
/-- a look whose value is a new dict -/
def qSnapD (F : Env → Option D) : Env → List Ob → Option (D × List Ob) := fun ρ S => match F (ρ.map (shw S)) with | some (.dct ks xs) => if noInss xs = true then some (.dct ks xs, S) else none | _ => none
theorem me_snapD (h : FD X O e F) : ME X O e (qSnapD F) := fun φ B Bf ρ S σ Hf H d S' Q M hF q => by
  unfold qSnapD at hF
  split at hF
  · rename_i ks xs hd
    split at hF
    · rename_i hn
      cases hF
      refine h φ _ _ _ σ _ H _ _ M.snap hd fun a ks' ys vs Hf1 H1 hl g n1 n2 hs hln r => ?_
      cases hl
      obtain ⟨M1, s1⟩ := M.back g
      have r' : RpAll X.K φ (ofc φ S Hf1) xs vs := RpAll.cut (fun b o e1 e2 => by
        by_cases hq : ObAt φ S b
        · obtain ⟨u, e3, _, n1, n2⟩ := M.cl.get hq
          have := g.f _ _ ((fzc_at hq).trans e3)
          rw [e1] at this
          cases this
          rcases e2 with ⟨xs, z⟩ | ⟨w, u, z⟩
          · exact absurd z (n1 xs)
          · exact absurd z (n2 w u)
        · rw [ofc_no hq]; exact e1) hn r
      have hno : ¬ ObAt φ S a := fun z => by
        obtain ⟨_, e3, _⟩ := M.cl.get z
        rw [n1] at e3; cases e3
      have nf : ofc φ S Hf1 a = none := (ofc_no hno).trans n2
      have nB : B a = none := by
        cases hq : B a with
        | none => rfl
        | some u => rw [M.fb _ _ hq] at n1; cases n1
      have sm : Same (ofc φ S Hf1) (upd (ofc φ S Hf1) a (.dK (kz ks vs))) := same_upd nf
      have D : MDone X.K φ B Bf S (upd (ofc φ S Hf1) a (.dK (kz ks vs))) H1 := by
        refine ⟨fun b u z => ?_, ⟨fun i o z => ?_, M1.cl.inj, M1.cl.out⟩, M1.fb, fun b u z zf => ?_, M1.nb⟩
        · by_cases hb : b = a
          · subst hb; rw [upd_same] at z; cases z; exact hs
          · rw [upd_ne hb] at z; exact M1.sub _ _ z
        · obtain ⟨b, w1, w2, w3⟩ := M1.cl.at_ i o z
          refine ⟨b, w1, ?_, w3.mono (.refl φ) sm⟩
          have hb : b ≠ a := fun hb => hno ⟨i, (List.getElem?_eq_some_iff.mp z).1, by rw [← hb]; exact w1⟩
          rw [upd_ne hb]
          exact w2
        · rw [upd_ne (fun hb => by rw [hb, nB] at z; cases z)]
          exact M1.fn _ _ z zf
      have M2 : MSR X.K φ B Bf O ρ S σ (upd (ofc φ S Hf1) a (.dK (kz ks vs))) H1 := by
        refine D.msr M1.sr.len (fun i d z n => ?_) (fun i d z m => ?_) M1.sr.ne
        · obtain ⟨v, w1, w2⟩ := M1.sr.val i d z n
          exact ⟨v, w1, w2.mono sm⟩
        · obtain ⟨b, ys, ws, w1, w2, w3, w4, w5, w6, w7⟩ := M1.own i d z m
          obtain ⟨b', _, _, _, y2, y3, _⟩ := M.own i d z m
          rw [w2] at y2
          cases y2
          exact ⟨b, ys, ws, w1, w2, w3, by rw [upd_ne (fun hb => by rw [hb, n1] at y3; cases y3)]; exact w4, w5, w6, w7.mono sm⟩
      exact q φ (.ref a) _ H1 (.refl φ) (s1.trans sm) M2 (.dct (.inl upd_same) hln (r'.mono sm))
    · cases hF
  · cases hF
end
end FL
namespace FL
open PySem PySem.Spec L2

/-! ### tests, calls and loops over what changes objects -/
section
variable {X : Cx} {O O' O1 : List Nat} {e a b tg iter : Expr} {es rest : List Expr} {T : Env → Option Bool} {p pos : Pos} {M1 M2 : Env → List Ob → Option (D × List Ob)} {T1 T2 : Env → List Ob → Option (Bool × List Ob)} {A1 : Env → List Ob → Option (List D × List Ob)} {x : Str} {n j k : Nat}
def qTp (T : Env → Option Bool) : Env → List Ob → Option (Bool × List Ob) := fun ρ S => match T ρ with | some b => some (b, S) | none => none
theorem mt_pure (h : FT X O e T) : MT X O e (qTp T) := fun φ B Bf ρ S σ Hf H d S' Q M hF k => by
  unfold qTp at hF
  split at hF
  · rename_i b' hb
    cases hF
    exact h φ _ _ ρ σ Hf H d _ M.sr hb fun Hf1 H1 g => k φ Hf1 H1 (.refl φ) g.f (M.gr g)
  · cases hF
def qBl (M1 : Env → List Ob → Option (D × List Ob)) : Env → List Ob → Option (Bool × List Ob) := fun ρ S => match M1 ρ S with | some (.bl b, S') => some (b, S') | _ => none
theorem mt_val (h : ME X O e M1) (he : ∀ whole, isTrue e X.env whole = (do let v ← whole; standAt e.pos; holding [v] (truthy v)) := by intro _; rfl) : MT X O e (qBl M1) := fun φ B Bf ρ S σ Hf H c S' Q M hF k => by
  unfold qBl at hF
  split at hF
  · rename_i b' S1 hb
    cases hF
    refine toT (pt_truth peW he) ?_
    refine h φ B Bf ρ S σ Hf H _ _ _ M hb fun φ1 v Hf1 H1 e1 s1 M1 r1 => ⟨_, ?_, k φ1 Hf1 H1 e1 s1 M1⟩
    cases r1
    rfl
  · cases hF
def qNot (T1 : Env → List Ob → Option (Bool × List Ob)) : Env → List Ob → Option (Bool × List Ob) := fun ρ S => match T1 ρ S with | some (b, S') => some (!b, S') | none => none
theorem mt_not (h : MT X O e T1) : MT X O (.UnaryOp .Not e pos) (qNot T1) := fun φ B Bf ρ S σ Hf H c S' Q M hF k => by
  unfold qNot at hF
  split at hF
  · rename_i b' S1 hb
    cases hF
    exact toT (pt_not ptW) (h φ B Bf ρ S σ Hf H _ _ _ M hb fun φ1 Hf1 H1 e1 s1 M1 => k φ1 Hf1 H1 e1 s1 M1)
  · cases hF
def MW (X : Cx) (O : List Nat) (e : Expr) (F : Env → List Ob → Option (Bool × List Ob)) : Prop :=
  ∃ t : TT, PW X e t ∧ ∀ (φ : Nat → Option Addr) (B Bf : Hp) (ρ : Env) (S : List Ob) (σ : L2.St) (Hf H : Hp) (b : Bool) (S' : List Ob) (Q : Bool → Hp → Prop), MSR X.K φ B Bf O ρ S σ Hf H → F ρ S = some (b, S') →
    (∀ φ' Hf' H', Ext φ φ' → Same Hf Hf' → MSR X.K φ' B Bf O ρ S' σ Hf' H' → Q b H') → t σ H Q
theorem mt_w (h : MW X O e T1) : MT X O e T1 := by
  obtain ⟨t, p, h⟩ := h
  intro φ B Bf ρ S σ Hf H c S' Q M hF k
  exact toT p.pt (h φ B Bf ρ S σ Hf H c S' Q M hF k)
theorem mw_and1 (h : MT X O e T1) : MW X O (.BoolOp .And [e] pos) T1 := ⟨_, pw_and1 ptW, h⟩
theorem mw_or1 (h : MT X O e T1) : MW X O (.BoolOp .Or [e] pos) T1 := ⟨_, pw_or1 ptW, h⟩
def qAnd (T1 T2 : Env → List Ob → Option (Bool × List Ob)) : Env → List Ob → Option (Bool × List Ob) := fun ρ S => match T1 ρ S with | some (true, S') => T2 ρ S' | some (false, S') => some (false, S') | none => none
def qOr (T1 T2 : Env → List Ob → Option (Bool × List Ob)) : Env → List Ob → Option (Bool × List Ob) := fun ρ S => match T1 ρ S with | some (false, S') => T2 ρ S' | some (true, S') => some (true, S') | none => none
theorem mw_and (h : MT X O a T1) (h2 : MW X O (.BoolOp .And (b :: rest) pos) T2) : MW X O (.BoolOp .And (a :: b :: rest) pos) (qAnd T1 T2) := by
  obtain ⟨t, p, h2⟩ := h2
  refine ⟨_, pw_and ptW p, fun φ B Bf ρ S σ Hf H c S' Q M hF k => ?_⟩
  unfold qAnd at hF
  split at hF
  · rename_i S1 hb
    refine h φ B Bf ρ S σ Hf H true _ _ M hb fun φ1 Hf1 H1 e1 s1 M1 => ?_
    exact iteT (h2 φ1 B Bf ρ S1 σ Hf1 H1 c S' Q M1 hF fun φ2 Hf2 H2 e2 s2 M2 => k φ2 Hf2 H2 (e1.trans e2) (s1.trans s2) M2)
  · rename_i S1 hb
    cases hF
    exact h φ B Bf ρ S σ Hf H false _ _ M hb fun φ1 Hf1 H1 e1 s1 M1 => iteF (k φ1 Hf1 H1 e1 s1 M1)
  · cases hF
theorem mw_or (h : MT X O a T1) (h2 : MW X O (.BoolOp .Or (b :: rest) pos) T2) : MW X O (.BoolOp .Or (a :: b :: rest) pos) (qOr T1 T2) := by
  obtain ⟨t, p, h2⟩ := h2
  refine ⟨_, pw_or ptW p, fun φ B Bf ρ S σ Hf H c S' Q M hF k => ?_⟩
  unfold qOr at hF
  split at hF
  · rename_i S1 hb
    refine h φ B Bf ρ S σ Hf H false _ _ M hb fun φ1 Hf1 H1 e1 s1 M1 => ?_
    exact iteF (h2 φ1 B Bf ρ S1 σ Hf1 H1 c S' Q M1 hF fun φ2 Hf2 H2 e2 s2 M2 => k φ2 Hf2 H2 (e1.trans e2) (s1.trans s2) M2)
  · rename_i S1 hb
    cases hF
    exact h φ B Bf ρ S σ Hf H true _ _ M hb fun φ1 Hf1 H1 e1 s1 M1 => iteT (k φ1 Hf1 H1 e1 s1 M1)
  · cases hF
/-! a def that changes nothing, called with what changes objects -/
def pMir (m : List D → Option D) : List D → List Ob → Option (D × List Ob) := fun ds S => match m ds with | some d => some (d, S) | none => none
theorem me_callK {m : List D → Option D} (c : CalK X.prog X.w X.K X.mg X.base j x false n m) (hr : Room k X.A) (hk : j ≤ k) (hg : Gl X x) (ha : MA X O (e :: es) A1) (hdb : (x == ("__debug__" : Str)) = false := by decide +kernel) (he : starEach (e :: es) X.env = (false, eval e X.env) :: starEach es X.env := by rfl)
    (hpl : (backTo pos (starEach es X.env)).any (·.1) = false := by rfl) : ME X O (.Call (.Name x p) (e :: es) [] pos) (mCall n (pMir m) A1) := by
  obtain ⟨f, fd, ps, F, hm, hkp, hb⟩ := c.ok
  intro φ B Bf ρ S σ Hf H d S' Q M hF q
  unfold mCall at hF
  split at hF
  · rename_i ds S1 h1
    split at hF
    · rename_i hl
      unfold pMir at hF
      split at hF
      · rename_i d' h2
        cases hF
        refine toE (pe_call F (hr.mono hk) hg hm hkp hb .nil pass0 paW hdb he hpl) ?_
        refine ha φ B Bf ρ S σ Hf H ds _ _ M h1 fun φ1 vs Hf1 H1 e1 s1 M1 r1 => ?_
        exact ⟨φ1, Hf1, ds, d, M1.sub, by rw [List.append_nil]; exact r1, hl, h2, fun v Hf2 H2 g2 r2 => q φ1 v Hf2 H2 e1 (s1.trans g2.f) (M1.gr g2) r2⟩
      · cases hF
    · cases hF
  · cases hF
/-! what is walked -/
def MI (X : Cx) (O : List Nat) (tg iter : Expr) (F : Env → List Ob → Option (List D × List Ob)) : Prop :=
  ∀ (φ : Nat → Option Addr) (B Bf : Hp) (ρ : Env) (S : List Ob) (σ : L2.St) (Hf H : Hp) (ds : List D) (S' : List Ob) (R : It → Hp → Prop), MSR X.K φ B Bf O ρ S σ Hf H → F ρ S = some (ds, S') →
    (∀ φ' J Hf' H', Ext φ φ' → Same Hf Hf' → MSR X.K φ' B Bf O ρ S' σ Hf' H' → ItD X.K φ' Hf' ds J → R J H') → wI X tg iter σ H R
def jPure (Fi : Env → Option (List D)) : Env → List Ob → Option (List D × List Ob) := fun ρ S => match Fi ρ with | some ds => some (ds, S) | none => none
theorem mi_pure {Fi : Env → Option (List D)} (h : FI X O tg iter Fi) : MI X O tg iter (jPure Fi) := fun φ B Bf ρ S σ Hf H ds S' R M hF q => by
  unfold jPure at hF
  split at hF
  · rename_i ds' hd
    cases hF
    exact h φ _ _ ρ σ Hf H ds _ M.sr hd fun J Hf1 H1 g i => q φ J Hf1 H1 (.refl φ) g.f (M.gr g) i
  · cases hF
def jSeq (p : D → Bool) (M1 : Env → List Ob → Option (D × List Ob)) : Env → List Ob → Option (List D × List Ob) := fun ρ S => match M1 ρ S with | some (d, S') => if p d = true then (match seqD d with | some ds => some (ds, S') | none => none) else none | none => none
theorem mi_list (h : ME X O iter M1) : MI X O tg iter (jSeq isLst M1) := fun φ B Bf ρ S σ Hf H ds S' R M hF q => by
  unfold jSeq at hF
  split at hF
  · rename_i d S1 h1
    split at hF
    · rename_i h2
      split at hF
      · rename_i ds' h3
        cases hF
        refine toI (pi_list peW) ?_
        refine h φ B Bf ρ S σ Hf H d _ _ M h1 fun φ1 v Hf1 H1 e1 s1 M1 r1 => ?_
        obtain ⟨a, vs, e2, q2, r⟩ := r1.lst_f h2 h3
        exact ⟨a, e2, ⟨vs, M1.sub.seq q2⟩, q φ1 _ Hf1 H1 e1 s1 M1 (itD_list q2 r)⟩
      · cases hF
    · cases hF
  · cases hF
theorem mi_tup (h : ME X O iter M1) : MI X O tg iter (jSeq isTup M1) := fun φ B Bf ρ S σ Hf H ds S' R M hF q => by
  unfold jSeq at hF
  split at hF
  · rename_i d S1 h1
    split at hF
    · rename_i h2
      split at hF
      · rename_i ds' h3
        cases hF
        refine toI (pi_tup peW) ?_
        refine h φ B Bf ρ S σ Hf H d _ _ M h1 fun φ1 v Hf1 H1 e1 s1 M1 r1 => ?_
        cases r1 <;> first | (cases h2) | skip
        rename_i q2 r
        cases h3
        exact ⟨_, rfl, ⟨_, SqT_same M1.sub q2⟩, q φ1 _ Hf1 H1 e1 s1 M1 (itD_tup q2 r)⟩
      · cases hF
    · cases hF
  · cases hF
def mForM (Fi : Env → List Ob → Option (List D × List Ob)) (g : D → Env → Option Env) (G : Env → List Ob → Option MOut) : Env → List Ob → Option MOut := fun ρ S => match Fi ρ S with | some (ds, S1) => mLoop g G ds ρ S1 | none => none
theorem ms_forM {tgs : List Nat} {body : List Stmt} {Fi : Env → List Ob → Option (List D × List Ob)} {g : D → Env → Option Env} {G : Env → List Ob → Option MOut} (hp : PassesOwn (model X.prog X.w) X.A X.env X.xe) (hc : X.calm = true) (hi : MI X O tg iter Fi) (hg : FG X O O1 tgs tg g) (hb : MSs X O1 O body G)
    (hs : ∀ x, foldedSetIterable iter X.env x = pure x := by intro _; rfl) : MS X O O (.For tg iter body [] pos) (mForM Fi g G) := fun φ B Bf ρ S σ Hf H out Dn M hF P => by
  unfold mForM at hF
  split at hF
  · rename_i ds S0 hds
    refine toS (ps_for hp hc piW pgW pssW hs) ?_
    refine hi φ B Bf ρ S σ Hf H ds S0 _ M hds fun φ1 J Hf1 H1 e1 s1 M1 itd => ?_
    refine ⟨fun i m σ2 H2 => m = ds.length - i ∧ i ≤ ds.length ∧ ∃ φ2 ρ2 S2 Hf2, Ext φ1 φ2 ∧ Same Hf1 Hf2 ∧ MSR X.K φ2 B Bf O ρ2 S2 σ2 Hf2 H2 ∧ mLoop g G (ds.drop i) ρ2 S2 = some out, ⟨ds.length, by simp, Nat.zero_le _, φ1, ρ, S0, Hf1, .refl φ1, Same.refl _, M1, by simpa using hF⟩, ?_⟩
    rintro i m σ2 H2 ⟨rfl, hil, φ2, ρ2, S2, Hf2, e2, s2, M2, hl⟩
    by_cases hlt : i < ds.length
    · right
      have hget : ds[i]? = some ds[i] := List.getElem?_eq_getElem hlt
      obtain ⟨hgo, hyld⟩ := (itd i Hf2 H2 s2 M2.sub).2 _ hget
      rw [List.drop_eq_getElem_cons hlt] at hl
      unfold mLoop at hl
      split at hl
      · cases hl
      · rename_i ρ3 hρ3
        refine ⟨hgo, fun σ' H' => ∃ φ' ρ' S' Hf', Ext φ1 φ' ∧ Same Hf1 Hf' ∧ MSR X.K φ' B Bf O ρ' S' σ' Hf' H' ∧ mLoop g G (ds.drop (i + 1)) ρ' S' = some out, fun σ' H' ⟨φ', ρ', S', Hf', a0, a1, a2, a3⟩ => ⟨ds.length - (i + 1), by omega, rfl, hlt, φ', ρ', S', Hf', a0, a1, a2, a3⟩, fun x H3 hy => ?_⟩
        obtain ⟨Hf3, g3, r3⟩ := hyld x H3 hy
        have s3 := s2.trans g3.f
        have M3 := M2.gr g3
        refine hg φ2 _ _ ρ2 σ2 Hf3 H3 _ x ρ3 _ M3.sr (r3.ext e2) hρ3 fun σ4 S4 _ => ?_
        have M4 := M3.step S4
        split at hl
        · rename_i ρ4 S5 h4
          exact hb φ2 B Bf ρ3 S2 σ4 Hf3 H3 _ _ M4 h4 fun φ' σ' Hf' H' e' s' M' => ⟨φ', ρ4, S5, Hf', e2.trans e', s3.trans s', M', hl⟩
        · rename_i d S5 h4
          cases hl
          exact hb φ2 B Bf ρ3 S2 σ4 Hf3 H3 _ _ M4 h4 fun φ' v Hf' H' e' s' D' r' => P φ' v Hf' H' (e1.trans (e2.trans e')) (s1.trans (s3.trans s')) D' r'
        · cases hl
    · left
      have hie : i = ds.length := by omega
      subst hie
      rw [List.drop_length] at hl
      cases hl
      exact ⟨(itd _ Hf2 H2 s2 M2.sub).1 (Nat.le_refl _), P φ2 σ2 Hf2 H2 (e1.trans e2) (s1.trans s2) M2⟩
  · cases hF
end
section
variable {X : Cx} {O : List Nat} {e o : Expr} {es : List Expr} {c m x f : Str} {p pos apos pos' : Pos} {Fo : Env → Option D} {A1 : Env → List Ob → Option (List D × List Ob)} {M1 : Env → List Ob → Option (D × List Ob)} {k j n i : Nat} {fs : List Str} {mi : List D → Option (List D)} {mir : List D → List Ob → Option (D × List Ob)}
theorem me_new0 (cc : CalC X.prog X.w X.K X.mg X.base j c fs 0 mi) (hr : Room k X.A) (hk : j + 1 ≤ k) (hg : Gl X c) (hdb : (c == ("__debug__" : Str)) = false := by decide) : ME X O (.Call (.Name c p) [] [] pos) (mNew c fs 0 mi qNil) := by
  obtain ⟨f, fd, ps, Fn, Mk, hm, hb⟩ := cc.ok
  intro φ B Bf ρ S σ Hf H d S' Q M hF q
  unfold mNew at hF
  split at hF
  · rename_i ds S1 h1
    cases h1
    split at hF
    · rename_i hl
      split at hF
      · rename_i xs h2
        cases hF
        refine toE (pe_make0 Mk Fn (hr.mono hk) hg hm hb .nil pass0 hdb) ?_
        have M1 := M
        have e1 := Ext.refl φ
        have s1 := Same.refl Hf
        show tMake _ _ _ _ L2.tNil σ H Q
        intro x dx hx hdx hne
        have hs1 : Same H (upd (upd H dx (.own x)) x (.ins (He.ga X.K c) dx [])) := (same_upd hdx).trans (same_upd (by rw [upd_ne (fun z => hne z.symm)]; exact hx))
        refine ⟨φ, Hf, x, dx, [], [], xs, rfl, upd_same, M1.sub.free hx, M1.sub.trans hs1, .nil, hl, h2, fun Hf2 H2 ws t s2 x2 y2 l2 r2 => ⟨rfl, ?_⟩⟩
        have g2 : Gr Hf H Hf2 H2 := ⟨t.f, fun b u z => t.h b u (ne_of_none z hx) (hs1 _ _ z), s2, fun b u z zf => t.n b u (ne_of_none z hx) (hs1 _ _ z) zf⟩
        have hB : B x = none := by
          cases hq : B x with
          | none => rfl
          | some u => rw [M1.fb _ _ hq] at hx; cases hx
        have new : ∀ i, φ i ≠ some x := fun i hi => by
          by_cases hl : i < S.length
          · obtain ⟨_, z, _⟩ := M1.cl.get ⟨i, hl, hi⟩
            rw [hx] at z; cases z
          · rw [M1.cl.out i (by omega)] at hi; cases hi
        have hown : ∀ i d, ρ[i]? = some (some d) → i ∈ O → σ[i]? ≠ some (some (.ref x)) := fun i d hd hi z => by
          obtain ⟨a, xs', vs', q1, q2, q3, _⟩ := M1.own i d hd hi
          rw [z] at q2
          cases q2
          rw [hx] at q3; cases q3
        obtain ⟨ex, M2⟩ := (M1.gr g2).add (o := ⟨.ins, c, fs, xs⟩) (.mk_ins y2 l2 r2) x2 hB new hown
        exact q _ (.ref x) Hf2 H2 (e1.trans ex) (s1.trans t.f) M2 (.obj (by unfold nphi; rw [if_pos rfl]))
      · cases hF
    · cases hF
  · cases hF
theorem me_meth0 {pl : Sem Bool} (cm : CalME X.prog X.w X.K X.mg X.base j c m 1 mir) (hr : Room k X.A) (hk : j ≤ k) (ho : FE X O o Fo)
    (ht : eval (.Call (.Attribute o m apos) [] [] pos) X.env = (do
      let ov ← eval o X.env
      standAt apos.atName
      let (f, first) ← holding [ov] (getMethod ov m pl)
      callWith pos f first (backTo pos (starEach [] X.env)) (backToKw pos (keywordEach [] X.env))) := by rfl) : ME X O (.Call (.Attribute o m apos) [] [] pos) (mMe c m 1 mir Fo qNil) := by
  obtain ⟨f, fd, ps, Fn, hc, hm, hb⟩ := cm.ok
  intro φ B Bf ρ S σ Hf H d S' Q M hF q
  obtain ⟨i, o', ds, S1, h1, h2, h0, h3, h4, h5, h6, h7⟩ := mMe_some hF
  subst h3
  refine toE (pe_meth0 (pl := pl) peW hc hm Fn (hr.mono hk) hb .nil pass0 ht) ?_
  refine ho φ _ _ ρ σ Hf H _ _ M.sr h1 fun v Hf1 H1 g1 r1 => ?_
  have M1 := M.gr g1
  cases r1 with
  | obj hi =>
    obtain ⟨a, q1, q3, q0⟩ := M1.cl.at_ _ _ h2
    rw [hi] at q1
    cases q1
    obtain ⟨dx, vs0, q2, q4, q5⟩ := q0.ins h0
    refine ⟨_, _, _, rfl, q2, zip_lookup_none _ _ h4, ?_⟩
    obtain ⟨rfl, rfl⟩ : ([] : List D) = ds ∧ S = S1 := by cases h5; exact ⟨rfl, rfl⟩
    show tNil _ _ _
    refine M1.into (E := fun _ _ _ => False) (ds := [.obj i]) (.cons (.obj hi) .nil) rfl h7 fun φ3 v Hf3 H3 e3 s3 M3 r3 => q φ3 v Hf3 H3 e3 (g1.f.trans s3) M3 r3
end
/-! a list of our own becomes a list that changes -/
section
variable {X : Cx} {O O1 : List Nat} {st : Stmt} {G : Env → List Ob → Option MOut}
theorem MSR.prom {K : PySem.W.Frag} {φ : Nat → Option Addr} {B Bf : Hp} {ρ : Env} {S : List Ob} {σ : L2.St} {Hf H : Hp} {i : Nat} {xs : List D} (M : MSR K φ B Bf O ρ S σ Hf H) (hi : ρ[i]? = some (some (.lst xs))) (hO : i ∈ O) :
    ∃ φ', Ext φ φ' ∧ MSR K φ' B Bf (O.filter (· != i)) (ρ.set i (some (.obj S.length))) (S ++ [⟨.lst, "", [], xs⟩]) σ Hf H := by
  obtain ⟨a, xs', vs, q1, q2, q3, q4, q5, q6, r⟩ := M.own i _ hi hO
  cases q1
  have hil : i < ρ.length := (List.getElem?_eq_some_iff.mp hi).1
  have M1 : MSR K φ B Bf O (wipeE ρ [i]) S σ Hf H := by
    refine M.step ⟨by rw [wipeE_len]; exact M.sr.len, M.sr.sub, M.sr.gf, M.sr.gh, M.sr.gn, fun i d e n => ?_, fun i d e m => ?_, fun i j d e a h1 h2 m1 m2 hne q1 => ?_⟩
    · exact M.sr.val i d (wipeE_some e).1 n
    · exact M.sr.own i d (wipeE_some e).1 m
    · exact M.sr.ne i j d e a (wipeE_some h1).1 (wipeE_some h2).1 m1 m2 hne q1
  have new : ∀ j, φ j ≠ some a := fun j hj => by
    by_cases hl : j < S.length
    · exact q6 ⟨j, hl, hj⟩
    · rw [M.cl.out j (by omega)] at hj; cases hj
  have hown : ∀ j d, (wipeE ρ [i])[j]? = some (some d) → j ∈ O → σ[j]? ≠ some (some (.ref a)) := fun j d hd hj z => by
    have e := wipeE_some hd
    have hji : i ≠ j := fun z => e.2 (by rw [← z]; exact List.mem_singleton.mpr rfl)
    exact M.sr.ne i j _ _ a hi e.1 hO hj hji q2 z
  obtain ⟨ex, M2⟩ := M1.add (o := ⟨.lst, "", [], xs⟩) (x := a) ⟨vs, r, q3⟩ q4 q5 new hown
  have M3 := M2.set i (d := .obj S.length) (v := .ref a) (.obj (by unfold nphi; rw [if_pos rfl]))
  refine ⟨_, ex, ?_⟩
  have e1 : (wipeE ρ [i]).set i (some (.obj S.length)) = ρ.set i (some (.obj S.length)) := by
    show (ρ.set i none).set i _ = _
    rw [List.set_set]
  have e2 : σ.set i (some (.ref a)) = σ := by
    apply List.ext_getElem?
    intro j
    by_cases hj : j = i
    · subst hj
      rw [List.getElem?_set_self (by rw [← M.sr.len]; exact hil), q2]
    · rw [List.getElem?_set_ne (Ne.symm hj)]
  rw [e1, e2] at M3
  exact M3
def mProm (i : Nat) (G : Env → List Ob → Option MOut) : Env → List Ob → Option MOut := fun ρ S => match G ρ S with
  | some (.nx ρ1 S1) => (match ρ1[i]? with | some (some (.lst xs)) => some (.nx (ρ1.set i (some (.obj S1.length))) (S1 ++ [⟨.lst, "", [], xs⟩])) | _ => none)
  | _ => none
theorem ms_prom {i : Nat} (h : MS X O O1 st G) (hO : O1.contains i = true) : MS X O (O1.filter (· != i)) st (mProm i G) := fun φ B Bf ρ S σ Hf H out Dn M hF P => by
  unfold mProm at hF
  split at hF
  · rename_i ρ1 S1 h1
    split at hF
    · rename_i xs h2
      cases hF
      refine h φ B Bf ρ S σ Hf H _ Dn M h1 fun φ1 σ1 Hf1 H1 e1 s1 M1 => ?_
      obtain ⟨φ2, e2, M2⟩ := M1.prom h2 (List.contains_iff_mem.mp hO)
      exact P φ2 σ1 Hf1 H1 (e1.trans e2) s1 M2
    · cases hF
  · cases hF
def mEx (M1 : Env → List Ob → Option (D × List Ob)) : Env → List Ob → Option MOut := fun ρ S => match M1 ρ S with | some (_, S') => some (.nx ρ S') | none => none
end
end FL
namespace FL
open PySem PySem.Spec L2

/-! ### steps of mirrors over objects -/
section
variable {A B : Env → Option Out} {T : Env → Option Bool} {F Fo Fi : Env → Option D} {G A1 B1 : Env → List Ob → Option MOut} {F1 : Env → List Ob → Option (D × List Ob)} {T1 : Env → List Ob → Option (Bool × List Ob)} {ρ ρ' : Env} {S S1 S2 : List Ob} {d y : D} {i t : Nat} {o : Option MOut} {vs : List Nat} {b : Bool}
theorem w_pure (h : A ρ = some (.nx ρ')) (k : G ρ' S = o) : mSeq (mPure A) G ρ S = o := by
  unfold mSeq mPure
  rw [h]
  exact k
theorem w_set (h : F ρ = some d) (k : G (ρ.set i (some d)) S = o) : mSeq (mPure (sSet i F)) G ρ S = o := by
  refine w_pure ?_ k
  unfold sSet
  rw [h]
theorem w_oset (h : F1 ρ S = some (d, S1)) (k : G (ρ.set i (some d)) S1 = o) : mSeq (mSet i F1) G ρ S = o := by
  unfold mSeq mSet
  rw [h]
  exact k
theorem w_fg (k : G (wipeE ρ vs) S = o) : mForget vs G ρ S = o := k
theorem w_as (k : mSeq A1 (mSeq B1 G) ρ S = o) : mSeq (mSeq A1 B1) G ρ S = o := by
  rw [← k]
  show (match mSeq A1 B1 ρ S with | some (.nx ρ' S') => G ρ' S' | o => o) = (match A1 ρ S with | some (.nx ρ' S') => mSeq B1 G ρ' S' | o => o)
  unfold mSeq
  cases A1 ρ S with
  | none => rfl
  | some q => cases q <;> rfl
theorem w_nil (k : G ρ S = o) : mSeq mNil G ρ S = o := k
theorem w_if (h : T1 ρ S = some (b, S1)) (k1 : b = true → mSeq A1 G ρ S1 = o) (k2 : b = false → mSeq B1 G ρ S1 = o) : mSeq (mIf T1 A1 B1) G ρ S = o := by
  have e : mIf T1 A1 B1 ρ S = if b = true then A1 ρ S1 else B1 ρ S1 := by
    unfold mIf
    rw [h]
    cases b <;> rfl
  show (match mIf T1 A1 B1 ρ S with | some (.nx ρ' S') => G ρ' S' | o => o) = o
  rw [e]
  cases b
  · exact k2 rfl
  · exact k1 rfl
theorem w_t (h : T1 ρ S = some (true, S1)) (k : mSeq A1 G ρ S1 = o) : mSeq (mIf T1 A1 B1) G ρ S = o := w_if h (fun _ => k) fun z => (nomatch z)
theorem w_f (h : T1 ρ S = some (false, S1)) (k : mSeq B1 G ρ S1 = o) : mSeq (mIf T1 A1 B1) G ρ S = o := w_if h (fun z => (nomatch z)) fun _ => k
theorem w_for {Fj : Env → List Ob → Option (List D × List Ob)} {g : D → Env → Option Env} {ds : List D} (h : Fj ρ S = some (ds, S1)) (k : mLoop g B1 ds ρ S1 = some (.nx ρ' S2)) (k2 : G ρ' S2 = o) : mSeq (mForM Fj g B1) G ρ S = o := by
  unfold mSeq mForM
  rw [h]
  dsimp only
  rw [k]
  exact k2
theorem w_retP (h : F ρ = some d) : mSeq (mPure (sRet F)) G ρ S = some (.rt d S) := by
  unfold mSeq mPure sRet
  rw [h]
theorem w_ret (h : F1 ρ S = some (d, S1)) : mSeq (mRet F1) G ρ S = some (.rt d S1) := by
  unfold mSeq mRet
  rw [h]
theorem w_put {c f : Str} {ob : Ob} (h1 : F1 ρ S = some (d, S1)) (h2 : Fo ρ = some (.obj t)) (h3 : S1[t]? = some ob) (h4 : ob.k = .ins ∧ ob.c = c ∧ ob.fs.contains f = true ∧ ob.fs.length < 1000) (k : G ρ (putO S1 t f d) = o) : mSeq (mPut c f Fo F1) G ρ S = o := by
  unfold mSeq mPut
  rw [h1]
  dsimp only
  rw [h2]
  dsimp only
  rw [h3]
  dsimp only
  rw [if_pos h4]
  exact k
theorem w_putI {ob : Ob} {z : Int} {j : Nat} (h1 : F1 ρ S = some (d, S1)) (h2 : Fi ρ = some (.int z)) (h3 : ρ[i]? = some (some (.obj t))) (h4 : S1[t]? = some ob) (h5 : ob.k = .lst) (h6 : ixN ob.xs.length z = some j) (k : G ρ (setL S1 t (ob.xs.set j d)) = o) : mSeq (mPutI i Fi F1) G ρ S = o := by
  unfold mSeq mPutI
  rw [h1]
  dsimp only
  rw [h2]
  dsimp only
  rw [h3]
  dsimp only
  rw [h4]
  dsimp only
  rw [if_pos h5, h6]
  exact k
theorem w_prom {xs : List D} (h : A1 ρ S = some (.nx ρ' S1)) (h2 : ρ'[i]? = some (some (.lst xs))) (k : G (ρ'.set i (some (.obj S1.length))) (S1 ++ [⟨.lst, "", [], xs⟩]) = o) : mSeq (mProm i A1) G ρ S = o := by
  unfold mSeq mProm
  rw [h]
  dsimp only
  rw [h2]
  exact k
theorem w_ex (h : F1 ρ S = some (d, S1)) (k : G ρ S1 = o) : mSeq (mEx F1) G ρ S = o := by
  unfold mSeq mEx
  rw [h]
  exact k
theorem w_mut {A2 : Env → List Ob → Option (List D × List Ob)} {f : List D → List D → Option (List D)} {ob ob1 : Ob} {ds ys : List D} (h1 : ρ[i]? = some (some (.obj t))) (h2 : S[t]? = some ob) (h3 : ob.k = .lst) (h4 : A2 ρ S = some (ds, S1)) (h5 : S1[t]? = some ob1) (h6 : ob1.k = .lst) (h7 : f ob1.xs ds = some ys) (k : G ρ (setL S1 t ys) = o) : mSeq (mMut i f A2) G ρ S = o := by
  unfold mSeq mMut
  rw [h1]
  dsimp only
  rw [h2]
  dsimp only
  rw [if_pos h3, h4]
  dsimp only
  rw [h5]
  dsimp only
  rw [if_pos h6, h7]
  exact k
theorem qSnap_val (h : F (ρ.map (shw S)) = some d) (hn : noIns d = true) : qSnap F ρ S = some (d, S) := by
  unfold qSnap
  rw [h]
  dsimp only
  rw [if_pos hn]
theorem qSnapN_val {xs : List D} (h : F (ρ.map (shw S)) = some (.lst xs)) (hn : noInss xs = true) : qSnapN F ρ S = some (.lst xs, S) := by
  unfold qSnapN
  rw [h]
  dsimp only
  rw [if_pos hn]
theorem qSnapD_val {ks : List Str} {xs : List D} (h : F (ρ.map (shw S)) = some (.dct ks xs)) (hn : noInss xs = true) : qSnapD F ρ S = some (.dct ks xs, S) := by
  unfold qSnapD
  rw [h]
  dsimp only
  rw [if_pos hn]
theorem qPure_val (h : F ρ = some d) : qPure F ρ S = some (d, S) := by
  unfold qPure
  rw [h]
theorem qTst_val (h : T (ρ.map (shw S)) = some b) : qTst T ρ S = some (b, S) := by
  unfold qTst
  rw [h]
theorem qTp_val (h : T ρ = some b) : qTp T ρ S = some (b, S) := by
  unfold qTp
  rw [h]
theorem qNot_val (h : T1 ρ S = some (b, S1)) : qNot T1 ρ S = some (!b, S1) := by
  unfold qNot
  rw [h]
theorem qBl_val (h : F1 ρ S = some (.bl b, S1)) : qBl F1 ρ S = some (b, S1) := by
  unfold qBl
  rw [h]
theorem qAnd_f {T2 : Env → List Ob → Option (Bool × List Ob)} (h : T1 ρ S = some (false, S1)) : qAnd T1 T2 ρ S = some (false, S1) := by
  unfold qAnd
  rw [h]
theorem qAnd_t {T2 : Env → List Ob → Option (Bool × List Ob)} (h : T1 ρ S = some (true, S1)) (h2 : T2 ρ S1 = some (b, S2)) : qAnd T1 T2 ρ S = some (b, S2) := by
  unfold qAnd
  rw [h]
  exact h2
theorem qCons_val {A2 : Env → List Ob → Option (List D × List Ob)} {ds : List D} (h1 : F1 ρ S = some (d, S1)) (h2 : A2 ρ S1 = some (ds, S2)) : qCons F1 A2 ρ S = some (d :: ds, S2) := by
  unfold qCons
  rw [h1]
  dsimp only
  rw [h2]
theorem mCall_val {A2 : Env → List Ob → Option (List D × List Ob)} {ds : List D} {n : Nat} {mir : List D → List Ob → Option (D × List Ob)} (h1 : A2 ρ S = some (ds, S1)) (h2 : ds.length = n) (h3 : mir ds S1 = some (d, S2)) : mCall n mir A2 ρ S = some (d, S2) := by
  unfold mCall
  rw [h1]
  dsimp only
  rw [if_pos h2]
  exact h3
theorem mMe_val {A2 : Env → List Ob → Option (List D × List Ob)} {ds : List D} {n : Nat} {c m : Str} {ob : Ob} {mir : List D → List Ob → Option (D × List Ob)} (h0 : Fo ρ = some (.obj t)) (h1 : S[t]? = some ob) (h2 : ob.k = .ins ∧ ob.c = c ∧ ob.fs.contains m = false) (h3 : A2 ρ S = some (ds, S1)) (h4 : ds.length + 1 = n) (h5 : mir (.obj t :: ds) S1 = some (d, S2)) : mMe c m n mir Fo A2 ρ S = some (d, S2) := by
  unfold mMe
  rw [h0]
  dsimp only
  rw [h1]
  dsimp only
  rw [if_pos h2, h3]
  dsimp only
  rw [if_pos h4]
  exact h5
theorem pMir_val {m : List D → Option D} {ds : List D} (h : m ds = some d) : pMir m ds S = some (d, S) := by
  unfold pMir
  rw [h]
theorem runM_rt {N n : Nat} {ds : List D} (h : G (envOf N n ds) S = some (.rt d S1)) : runM N n G ds S = some (d, S1) := by
  unfold runM
  rw [h]
theorem runM_nx {N n : Nat} {ds : List D} (h : G (envOf N n ds) S = some (.nx ρ' S1)) : runM N n G ds S = some (.non, S1) := by
  unfold runM
  rw [h]
end
theorem mloop_nx {g : D → Env → Option Env} {G : Env → List Ob → Option MOut} {I : Nat → Env → List Ob → Prop} : ∀ (ds : List D) (j : Nat) (ρ : Env) (S : List Ob), (∀ (i : Nat) (ρ : Env) (S : List Ob) (d : D), I (j + i) ρ S → ds[i]? = some d → ∃ ρ1 ρ2 S2, g d ρ = some ρ1 ∧ G ρ1 S = some (.nx ρ2 S2) ∧ I (j + i + 1) ρ2 S2) → I j ρ S →
    ∃ ρ' S', mLoop g G ds ρ S = some (.nx ρ' S') ∧ I (j + ds.length) ρ' S'
  | [], j, ρ, S, _, h => ⟨ρ, S, rfl, h⟩
  | d :: ds, j, ρ, S, st, h => by
    obtain ⟨ρ1, ρ2, S2, h1, h2, h3⟩ := st 0 ρ S d h rfl
    obtain ⟨ρ', S', k1, k2⟩ := mloop_nx ds (j + 1) ρ2 S2 (fun i ρ S d q e => by
      have := st (i + 1) ρ S d (by rw [show j + (i + 1) = j + 1 + i by omega]; exact q) e
      rw [show j + (i + 1) + 1 = j + 1 + i + 1 by omega] at this
      exact this) h3
    refine ⟨ρ', S', ?_, by rw [List.length_cons, show j + (ds.length + 1) = j + 1 + ds.length by omega]; exact k2⟩
    unfold mLoop
    rw [h1]
    dsimp only
    rw [h2]
    exact k1
theorem jPure_val {Fi : Env → Option (List D)} {ρ : Env} {S : List Ob} {ds : List D} (h : Fi ρ = some ds) : jPure Fi ρ S = some (ds, S) := by
  unfold jPure
  rw [h]
theorem rng1_v {F : Env → Option D} {ρ : Env} {k : Nat} (h : F ρ = some (.int (k : Int))) (hk : k < 1000000) : iRng1 (aCons F aNil) ρ = some (rngD 0 k) := by
  unfold iRng1
  rw [show aCons F aNil ρ = some [.int (k : Int)] from by unfold aCons aNil; rw [h]]
  dsimp only
  rw [if_pos ⟨by omega, by omega⟩, Int.toNat_natCast]
/-! dicts -/
theorem dhas_mem {k : Str} : ∀ {ks : List Str}, dhas k ks = true ↔ k ∈ ks
  | [] => by simp [dhas]
  | g :: gs => by
    unfold dhas
    by_cases h : g = k
    · simp [h]
    · rw [if_neg h, dhas_mem]; simp [Ne.symm h]
theorem dget_map {α : Type} {f : Str → α} {k : Str} : ∀ {ks : List Str}, k ∈ ks → dget k ks (ks.map f) = some (f k)
  | [], h => by cases h
  | g :: gs, h => by
    show (if g = k then some (f g) else dget k gs (gs.map f)) = _
    by_cases e : g = k
    · rw [if_pos e, e]
    · rw [if_neg e]
      refine dget_map ?_
      rcases List.mem_cons.mp h with z | z
      · exact absurd z.symm e
      · exact z
theorem dcL_all {g : D → Env → Option Env} {T : Env → Option Bool} {Kf E : Env → Option D} {ρ : Env} {v : Str → D} : ∀ (ds pre : List Str) (xs : List D), (pre ++ ds).Nodup → pre.length + ds.length < 1000 →
    (∀ k ∈ ds, ∃ ρ1, g (.str k) ρ = some ρ1 ∧ T ρ1 = some true ∧ Kf ρ1 = some (.str k) ∧ E ρ1 = some (v k)) → dcL g T Kf E ρ (ds.map D.str) pre xs = some (pre ++ ds, xs ++ ds.map v)
  | [], pre, xs, _, _, _ => by unfold dcL; simp
  | k :: ds, pre, xs, hn, hl, h => by
    obtain ⟨ρ1, h1, h2, h3, h4⟩ := h k (.head _)
    have hk : ¬ dhas k pre = true := fun z => by
      have z' := dhas_mem.mp z
      rw [List.nodup_append] at hn
      exact hn.2.2 k z' k (.head _) rfl
    show dcL g T Kf E ρ (.str k :: ds.map D.str) pre xs = _
    unfold dcL
    rw [h1]
    dsimp only
    rw [h2]
    dsimp only
    rw [h3]
    dsimp only
    rw [h4]
    dsimp only
    rw [if_pos (by simp at hl; omega)]
    have e1 : dputK pre k = pre ++ [k] := by unfold dputK; rw [if_neg hk]
    have e2 : dputX k (v k) pre xs = xs ++ [v k] := by unfold dputX; rw [if_neg hk]
    rw [e1, e2, dcL_all ds (pre ++ [k]) (xs ++ [v k]) (by simpa using hn) (by simp at hl ⊢; omega) fun k' hk' => h k' (.tail _ hk')]
    simp
theorem eDc_all {vs : List Nat} {Fi : Env → Option (List D)} {g : D → Env → Option Env} {T : Env → Option Bool} {Kf E : Env → Option D} {ρ : Env} {ds : List Str} {v : Str → D} (h0 : Fi ρ = some (ds.map D.str)) (hn : ds.Nodup) (hl : ds.length < 1000)
    (h : ∀ k ∈ ds, ∃ ρ1, g (.str k) (wipeE ρ vs) = some ρ1 ∧ T ρ1 = some true ∧ Kf ρ1 = some (.str k) ∧ E ρ1 = some (v k)) : eDc vs Fi g T Kf E ρ = some (.dct ds (ds.map v)) := by
  unfold eDc
  rw [h0]
  dsimp only
  rw [if_pos (by rw [List.length_map]; omega), dcL_all ds [] [] (by simpa using hn) (by simpa using hl) h]
  simp
end FL
namespace FL
open PySem PySem.Spec L2

/-! ### a look that goes through objects -/
def shd (S : List Ob) : Nat → D → D
  | n + 1, .obj i => (match S[i]? with
    | some ⟨.ins, c, fs, xs⟩ => .ins c fs (xs.map (shd S n))
    | some ⟨.lst, _, _, xs⟩ => .lst (xs.map (shd S n))
    | some ⟨.dic, _, fs, xs⟩ => .dct fs (xs.map (shd S n))
    | none => .obj i)
  | _, d => d
def shE (S : List Ob) : Option D → Option D | some d => some (shd S 6 d) | none => none
section
variable {K : PySem.W.Frag} {φ : Nat → Option Addr} {B Bf : Hp} {O : List Nat} {ρ : Env} {S : List Ob} {σ : L2.St} {Hf H Hf' H' : Hp}
theorem OAt.dic {o : Ob} {x : Option HO} (h : OAt K φ Hf o x) (hk : o.k = .dic) : ∃ vs, x = Option.some (.dK (kz o.fs vs)) ∧ o.fs.length = vs.length ∧ RpAll K φ Hf o.xs vs := by
  obtain ⟨vs, r, q⟩ := h
  rw [hk] at q
  exact ⟨vs, q.2, q.1, r⟩
theorem MSR.s1 (M : MSR K φ B Bf O ρ S σ Hf H) : Same Hf (fzc φ S Hf H) := fun a o e => by
  by_cases h : ObAt φ S a
  · obtain ⟨_, _, e2, _⟩ := M.cl.get h
    rw [e2] at e; cases e
  · rw [fzc_no h]; exact e
mutual
theorem Rp.shd (M : MSR K φ B Bf O ρ S σ Hf H) : ∀ (n : Nat) {d : D} {v : V}, Rp K φ Hf d v → Rp K φ (fzc φ S Hf H) (FL.shd S n d) v
  | 0, d, v, r => by unfold FL.shd; exact r.mono M.s1
  | n + 1, d, v, r => by
    cases r with
    | @obj i a h =>
      unfold FL.shd
      split
      · rename_i c fs xs ho
        obtain ⟨a', q1, q2, q3⟩ := M.cl.at_ _ _ ho
        rw [h] at q1
        cases q1
        obtain ⟨dx, vs, z1, z2, z3⟩ := q3.ins rfl
        exact .ins ((fzc_at ⟨_, (List.getElem?_eq_some_iff.mp ho).1, h⟩).trans z1) z2 (RpAll.shd M n z3)
      · rename_i c fs xs ho
        obtain ⟨a', q1, q2, q3⟩ := M.cl.at_ _ _ ho
        rw [h] at q1
        cases q1
        obtain ⟨vs, z2, z1⟩ := q3.lst rfl
        exact .lst ((fzc_at ⟨_, (List.getElem?_eq_some_iff.mp ho).1, h⟩).trans z2) (RpAll.shd M n z1)
      · rename_i c fs xs ho
        obtain ⟨a', q1, q2, q3⟩ := M.cl.at_ _ _ ho
        rw [h] at q1
        cases q1
        obtain ⟨vs, z2, z3, z1⟩ := q3.dic rfl
        exact .dct (.inl ((fzc_at ⟨_, (List.getElem?_eq_some_iff.mp ho).1, h⟩).trans z2)) z3 (RpAll.shd M n z1)
      · exact .obj h
    | non => exact .non
    | bl b => exact .bl b
    | int i => exact .int i
    | str x => exact .str x
    | tup s r => exact (Rp.tup s r).mono M.s1
    | lst s r => exact (Rp.lst s r).mono M.s1
    | klst s r => exact (Rp.klst s r).mono M.s1
    | ins s l r => exact (Rp.ins s l r).mono M.s1
    | dct s l r => exact (Rp.dct s l r).mono M.s1
theorem RpAll.shd (M : MSR K φ B Bf O ρ S σ Hf H) : ∀ (n : Nat) {ds : List D} {vs : List V}, RpAll K φ Hf ds vs → RpAll K φ (fzc φ S Hf H) (ds.map (FL.shd S n)) vs
  | _, _, _, .nil => .nil
  | n, _, _, .cons r t => .cons (Rp.shd M n r) (RpAll.shd M n t)
end
theorem MSR.snapd (M : MSR K φ B Bf O ρ S σ Hf H) : SR K φ (fzc φ S Hf H) (bas φ S B (fzc φ S Hf H) H) O (ρ.map (shE S)) σ (fzc φ S Hf H) H := by
  have s1 := M.s1
  have s2 : Same (fzc φ S Hf H) H := fun a o e => by
    by_cases h : ObAt φ S a
    · rw [fzc_at h] at e; exact e
    · rw [fzc_no h] at e; exact M.sub _ _ e
  have get : ∀ i, (ρ.map (shE S))[i]? = (ρ[i]?).map (shE S) := fun i => List.getElem?_map
  have inv : ∀ (i : Nat) (d : D), (ρ[i]?).map (shE S) = some (some d) → ∃ d0 : D, ρ[i]? = some (some d0) ∧ shd S 6 d0 = d := fun i d e => by
    cases hq : ρ[i]? with
    | none => rw [hq] at e; cases e
    | some od =>
      cases od with
      | none => rw [hq] at e; cases e
      | some d0 => rw [hq] at e; exact ⟨d0, rfl, Option.some.inj (Option.some.inj e)⟩
  refine ⟨by rw [List.length_map]; exact M.sr.len, s2, Same.refl _, fun a o e => ?_, fun _ _ _ z => z, fun i d e n => ?_, fun i d e m => ?_, fun i j d e a h1 h2 m1 m2 hne q1 => ?_⟩
  · by_cases h : ObAt φ S a
    · rw [bas_at h] at e; exact e
    · rw [bas_no h] at e
      split at e
      · rename_i o' hb
        cases e
        exact M.fb _ _ hb
      · exact s2 _ _ e
  · rw [get] at e
    obtain ⟨d0, hq, rfl⟩ := inv i d e
    obtain ⟨v, e1, r⟩ := M.sr.val i d0 hq n
    exact ⟨v, e1, Rp.shd M 6 r⟩
  · rw [get] at e
    obtain ⟨d0, hq, rfl⟩ := inv i d e
    obtain ⟨a, xs, vs, q1, q2, q3, q4, q5, r⟩ := M.sr.own i d0 hq m
    subst q1
    have h : ¬ ObAt φ S a := fun h => by
      rw [bas_at h, q3] at q5; cases q5
    refine ⟨a, xs, vs, rfl, q2, q3, (fzc_no h).trans q4, ?_, r.mono s1⟩
    rw [bas_no h] at q5 ⊢
    split at q5
    · cases q5
    · exact (fzc_no h).trans q4
  · rw [get] at h1 h2
    obtain ⟨d1, k1, _⟩ := inv i d h1
    obtain ⟨d2, k2, _⟩ := inv j e h2
    exact M.sr.ne i j d1 d2 a k1 k2 m1 m2 hne q1
end
section
variable {X : Cx} {O : List Nat} {e c : Expr} {F : Env → Option D} {T : Env → Option Bool}
def qLk (F : Env → Option D) : Env → List Ob → Option (D × List Ob) := fun ρ S => match F (ρ.map (shE S)) with | some d => if noIns d = true then some (d, S) else none | none => none
def qTl (T : Env → Option Bool) : Env → List Ob → Option (Bool × List Ob) := fun ρ S => match T (ρ.map (shE S)) with | some b => some (b, S) | none => none
def qLkN (F : Env → Option D) : Env → List Ob → Option (D × List Ob) := fun ρ S => match F (ρ.map (shE S)) with | some (.lst xs) => if noInss xs = true then some (.lst xs, S) else none | _ => none
def qLkD (F : Env → Option D) : Env → List Ob → Option (D × List Ob) := fun ρ S => match F (ρ.map (shE S)) with | some (.dct ks xs) => if noInss xs = true then some (.dct ks xs, S) else none | _ => none
/-- no object stands where data stands, behind a look -/
theorem cut_look {K : PySem.W.Frag} {φ : Nat → Option Addr} {B Bf : Hp} {ρ : Env} {S : List Ob} {σ : L2.St} {Hf H Hf1 H1 : Hp} (M : MSR K φ B Bf O ρ S σ Hf H) (g : Gr (fzc φ S Hf H) H Hf1 H1) : ∀ a o, Hf1 a = some o → ((∃ xs, o = .tup xs) ∨ ∃ q u, o = .frz q u) → ofc φ S Hf1 a = some o := fun b o e1 e2 => by
  by_cases hq : ObAt φ S b
  · obtain ⟨u, e3, _, n1, n2⟩ := M.cl.get hq
    have := g.f _ _ ((fzc_at hq).trans e3)
    rw [e1] at this
    cases this
    rcases e2 with ⟨xs, z⟩ | ⟨w, u, z⟩
    · exact absurd z (n1 xs)
    · exact absurd z (n2 w u)
  · rw [ofc_no hq]; exact e1
theorem me_look (h : FE X O e F) : ME X O e (qLk F) := fun φ B Bf ρ S σ Hf H d S' Q M hF k => by
  unfold qLk at hF
  split at hF
  · rename_i d' hd
    split at hF
    · rename_i hn
      cases hF
      refine h φ _ _ _ σ _ H d _ M.snapd hd fun v Hf1 H1 g r => ?_
      obtain ⟨M1, s1⟩ := M.back g
      exact k φ v _ H1 (.refl φ) s1 M1 (r.cut (cut_look M g) hn)
    · cases hF
  · cases hF
theorem mt_look (h : FT X O c T) : MT X O c (qTl T) := fun φ B Bf ρ S σ Hf H d S' Q M hF k => by
  unfold qTl at hF
  split at hF
  · rename_i b' hb
    cases hF
    refine h φ _ _ _ σ _ H d _ M.snapd hb fun Hf1 H1 g => ?_
    obtain ⟨M1, s1⟩ := M.back g
    exact k φ _ H1 (.refl φ) s1 M1
  · cases hF
/-- what a look made new is fixed -/
theorem MSR.fix {K : PySem.W.Frag} {φ : Nat → Option Addr} {B Bf : Hp} {ρ : Env} {S : List Ob} {σ : L2.St} {Hf H Hf1 H1 : Hp} {a : Addr} {u : HO} (M : MSR K φ B Bf O ρ S σ Hf H) (M1 : MSR K φ B Bf O ρ S σ (ofc φ S Hf1) H1) (n1 : H a = none) (n2 : Hf1 a = none) (hs : H1 a = some u) :
    Same (ofc φ S Hf1) (upd (ofc φ S Hf1) a u) ∧ MSR K φ B Bf O ρ S σ (upd (ofc φ S Hf1) a u) H1 := by
  have hno : ¬ ObAt φ S a := fun z => by
    obtain ⟨_, e3, _⟩ := M.cl.get z
    rw [n1] at e3; cases e3
  have nf : ofc φ S Hf1 a = none := (ofc_no hno).trans n2
  have nB : B a = none := by
    cases hq : B a with
    | none => rfl
    | some u => rw [M.fb _ _ hq] at n1; cases n1
  have sm : Same (ofc φ S Hf1) (upd (ofc φ S Hf1) a u) := same_upd nf
  have D : MDone K φ B Bf S (upd (ofc φ S Hf1) a u) H1 := by
    refine ⟨fun b u z => ?_, ⟨fun i o z => ?_, M1.cl.inj, M1.cl.out⟩, M1.fb, fun b u z zf => ?_, M1.nb⟩
    · by_cases hb : b = a
      · subst hb; rw [upd_same] at z; cases z; exact hs
      · rw [upd_ne hb] at z; exact M1.sub _ _ z
    · obtain ⟨b, w1, w2, w3⟩ := M1.cl.at_ i o z
      refine ⟨b, w1, ?_, w3.mono (.refl φ) sm⟩
      have hb : b ≠ a := fun hb => hno ⟨i, (List.getElem?_eq_some_iff.mp z).1, by rw [← hb]; exact w1⟩
      rw [upd_ne hb]
      exact w2
    · rw [upd_ne (fun hb => by rw [hb, nB] at z; cases z)]
      exact M1.fn _ _ z zf
  refine ⟨sm, D.msr M1.sr.len (fun i d z n => ?_) (fun i d z m => ?_) M1.sr.ne⟩
  · obtain ⟨v, w1, w2⟩ := M1.sr.val i d z n
    exact ⟨v, w1, w2.mono sm⟩
  · obtain ⟨b, ys, ws, w1, w2, w3, w4, w5, w6, w7⟩ := M1.own i d z m
    obtain ⟨b', _, _, _, y2, y3, _⟩ := M.own i d z m
    rw [w2] at y2
    cases y2
    exact ⟨b, ys, ws, w1, w2, w3, by rw [upd_ne (fun hb => by rw [hb, n1] at y3; cases y3)]; exact w4, w5, w6, w7.mono sm⟩
theorem me_lookN (h : FN X O e F) : ME X O e (qLkN F) := fun φ B Bf ρ S σ Hf H d S' Q M hF q => by
  unfold qLkN at hF
  split at hF
  · rename_i xs hd
    split at hF
    · rename_i hn
      cases hF
      refine h φ _ _ _ σ _ H _ _ M.snapd hd fun a ys vs Hf1 H1 hl g n1 n2 hs r => ?_
      cases hl
      obtain ⟨M1, s1⟩ := M.back g
      have r' : RpAll X.K φ (ofc φ S Hf1) xs vs := RpAll.cut (cut_look M g) hn r
      obtain ⟨sm, M2⟩ := M.fix M1 n1 n2 hs
      exact q φ (.ref a) _ H1 (.refl φ) (s1.trans sm) M2 (.lst upd_same (r'.mono sm))
    · cases hF
  · cases hF
theorem me_lookD (h : FD X O e F) : ME X O e (qLkD F) := fun φ B Bf ρ S σ Hf H d S' Q M hF q => by
  unfold qLkD at hF
  split at hF
  · rename_i ks xs hd
    split at hF
    · rename_i hn
      cases hF
      refine h φ _ _ _ σ _ H _ _ M.snapd hd fun a ks' ys vs Hf1 H1 hl g n1 n2 hs hln r => ?_
      cases hl
      obtain ⟨M1, s1⟩ := M.back g
      have r' : RpAll X.K φ (ofc φ S Hf1) xs vs := RpAll.cut (cut_look M g) hn r
      obtain ⟨sm, M2⟩ := M.fix M1 n1 n2 hs
      exact q φ (.ref a) _ H1 (.refl φ) (s1.trans sm) M2 (.dct (.inl upd_same) hln (r'.mono sm))
    · cases hF
  · cases hF
/-- .. and will change: a list, a dict that is a new object -/
def qLkL (F : Env → Option D) : Env → List Ob → Option (D × List Ob) := fun ρ S => match F (ρ.map (shE S)) with | some (.lst xs) => if noInss xs = true then some (.obj S.length, S ++ [⟨.lst, "", [], xs⟩]) else none | _ => none
theorem me_lookL (h : FN X O e F) : ME X O e (qLkL F) := fun φ B Bf ρ S σ Hf H d S' Q M hF q => by
  unfold qLkL at hF
  split at hF
  · rename_i xs hd
    split at hF
    · rename_i hn
      cases hF
      refine h φ _ _ _ σ _ H _ _ M.snapd hd fun a ys vs Hf1 H1 hl g n1 n2 hs r => ?_
      cases hl
      obtain ⟨M1, s1⟩ := M.back g
      have r' : RpAll X.K φ (ofc φ S Hf1) xs vs := RpAll.cut (cut_look M g) hn r
      have hno : ¬ ObAt φ S a := fun z => by
        obtain ⟨_, e3, _⟩ := M.cl.get z
        rw [n1] at e3; cases e3
      have hB : B a = none := by
        cases hq : B a with
        | none => rfl
        | some u => rw [M.fb _ _ hq] at n1; cases n1
      have new : ∀ i, φ i ≠ some a := fun i hi => by
        by_cases hl : i < S.length
        · exact hno ⟨i, hl, hi⟩
        · rw [M.cl.out i (by omega)] at hi; cases hi
      have hown : ∀ i d, ρ[i]? = some (some d) → i ∈ O → σ[i]? ≠ some (some (.ref a)) := fun i d hd hi z => by
        obtain ⟨b, xs', vs', q1, q2, q3, _⟩ := M.own i d hd hi
        rw [z] at q2
        cases q2
        rw [n1] at q3; cases q3
      obtain ⟨ex, M2⟩ := M1.add (o := ⟨.lst, "", [], xs⟩) (x := a) ⟨vs, r', hs⟩ ((ofc_no hno).trans n2) hB new hown
      exact q _ (.ref a) _ H1 ex s1 M2 (.obj (by unfold nphi; rw [if_pos rfl]))
    · cases hF
  · cases hF
end
end FL
namespace FL
open PySem PySem.Spec L2

/-! ### an object set anew, whole -/
section
variable {K : PySem.W.Frag} {φ : Nat → Option Addr} {B Bf : Hp} {O : List Nat} {ρ : Env} {S : List Ob} {σ : L2.St} {Hf H : Hp}
theorem MSR.setO {i : Nat} {o o' : Ob} {a : Addr} {u : HO} (M : MSR K φ B Bf O ρ S σ Hf H) (ho : S[i]? = some o) (hp : φ i = some a) (h : OAt K φ Hf o' (some u)) : MSR K φ B Bf O ρ (S.set i o') σ Hf (upd H a u) := by
  obtain ⟨a', q1, q3, q0⟩ := M.cl.at_ i o ho
  rw [hp] at q1
  cases q1
  have hi : i < S.length := (List.getElem?_eq_some_iff.mp ho).1
  have hat : ObAt φ S a := ⟨i, hi, hp⟩
  have len : (S.set i o').length = S.length := List.length_set
  have D : MDone K φ B Bf (S.set i o') Hf (upd H a u) := by
    refine ⟨fun b v e => ?_, ⟨fun j o1 e => ?_, M.cl.inj, fun j hj => M.cl.out j (by rw [len] at hj; exact hj)⟩, fun b v e => ?_, M.fn, fun b ⟨j, hj, e⟩ => M.nb b ⟨j, by rw [len] at hj; exact hj, e⟩⟩
    · have hb : b ≠ a := by rintro rfl; rw [q3] at e; cases e
      rw [upd_ne hb]; exact M.sub _ _ e
    · by_cases hji : j = i
      · subst hji
        rw [List.getElem?_set_self hi] at e
        cases e
        exact ⟨a, hp, q3, by rw [upd_same]; exact h⟩
      · rw [List.getElem?_set_ne (Ne.symm hji)] at e
        obtain ⟨b, p1, p2, p3⟩ := M.cl.at_ j o1 e
        refine ⟨b, p1, p2, ?_⟩
        have hb : b ≠ a := by rintro rfl; exact hji (M.cl.inj _ _ _ p1 hp)
        rw [upd_ne hb]; exact p3
    · have hb : b ≠ a := by rintro rfl; rw [M.nb _ hat] at e; cases e
      rw [upd_ne hb]; exact M.fb _ _ e
  refine D.msr M.sr.len M.sr.val (fun j d' q m => ?_) M.sr.ne
  obtain ⟨b, xs, us, p1, p2, p3, p4, p5, p6, r'⟩ := M.own j d' q m
  have hb : b ≠ a := fun z => p6 (z ▸ hat)
  exact ⟨b, xs, us, p1, p2, by rw [upd_ne hb]; exact p3, p4, p5, fun ⟨j, hj, e⟩ => p6 ⟨j, by rw [len] at hj; exact hj, e⟩, r'⟩
end
/-! an attribute, set anew or new -/
def putAK (fs : List Str) (f : Str) : List Str := if fs.contains f = true then fs else fs ++ [f]
def putAX {α : Type} (f : Str) (d : α) (fs : List Str) (xs : List α) : List α := if fs.contains f = true then stF f d fs xs else xs ++ [d]
theorem putF_fresh (f : Str) (v : V) : ∀ (fs : List Str) (ws : List V), fs.length = ws.length → fs.contains f = false → putF f v (fs.zip ws) = (fs ++ [f]).zip (ws ++ [v])
  | [], [], _, _ => rfl
  | [], _ :: _, h, _ => by simp at h
  | _ :: _, [], h, _ => by simp at h
  | g :: fs, w :: ws, hl, h => by
    have h1 : ¬ g = f := fun z => by subst z; simp at h
    have h2 : fs.contains f = false := by simp at h ⊢; exact h.2
    show (if g = f then (g, v) :: fs.zip ws else (g, w) :: putF f v (fs.zip ws)) = _
    rw [if_neg h1, putF_fresh f v fs ws (by simpa using hl) h2]
    rfl
theorem putF_A (f : Str) (v : V) {fs : List Str} {ws : List V} (hl : fs.length = ws.length) : putF f v (fs.zip ws) = (putAK fs f).zip (putAX f v fs ws) ∧ (putAK fs f).length = (putAX f v fs ws).length := by
  unfold putAK putAX
  by_cases h : fs.contains f = true
  · rw [if_pos h, if_pos h]
    exact ⟨putF_st f v fs ws hl h, by rw [stF_len]; exact hl⟩
  · rw [if_neg h, if_neg h]
    exact ⟨putF_fresh f v fs ws hl (by simpa using h), by simp [hl]⟩
def putA (S : List Ob) (i : Nat) (f : Str) (d : D) : List Ob := match S[i]? with | some o => S.set i ⟨o.k, o.c, putAK o.fs f, putAX f d o.fs o.xs⟩ | none => S
theorem RpAll.putAX {K : PySem.W.Frag} {φ : Nat → Option Addr} {H : Hp} {f : Str} {d : D} {v : V} (q : Rp K φ H d v) {fs : List Str} {xs : List D} {ws : List V} (r : RpAll K φ H xs ws) : RpAll K φ H (FL.putAX f d fs xs) (FL.putAX f v fs ws) := by
  unfold FL.putAX
  split
  · exact RpAll.stF q fs r
  · exact r.append (.one q)
section
variable {X : Cx} {O O1 O' : List Nat} {e o : Expr} {es : List Expr} {c m x f : Str} {p pos pos' apos : Pos} {Fo : Env → Option D} {A1 : Env → List Ob → Option (List D × List Ob)} {M1 M2 : Env → List Ob → Option (D × List Ob)} {k j n i : Nat} {mir : List D → List Ob → Option (D × List Ob)}
def mPutA (c f : Str) (Fo : Env → Option D) (M1 : Env → List Ob → Option (D × List Ob)) : Env → List Ob → Option MOut := fun ρ S => match M1 ρ S with
  | some (d, S1) => (match Fo ρ with
    | some (.obj i) => (match S1[i]? with | some o => if o.k = .ins ∧ o.c = c ∧ o.fs.length < 1000 then some (.nx ρ (putA S1 i f d)) else none | none => none)
    | _ => none)
  | none => none
/-- o.f = e, set anew or new -/
theorem ms_putA (hc : Cls X.K (He.ga X.K c)) (hna : NoAttr X.K (He.ga X.K c) f) (h : ME X O e M1) (ho : FE X O o Fo) (hs : swapsWith e (some (.Attribute o f pos')) pos.line X.env = pure false := by rfl) :
    MS X O O (.Assign [.Attribute o f pos'] e pos) (mPutA c f Fo M1) := fun φ B Bf ρ S σ Hf H out Dn M hF P => by
  unfold mPutA at hF
  split at hF
  · rename_i d S1 hd
    split at hF
    · rename_i i h1
      split at hF
      · rename_i o' h2
        split at hF
        · rename_i h3
          obtain ⟨h0, rfl, h5⟩ := h3
          cases hF
          refine toS (ps_fld peW peW hs) ?_
          refine h φ B Bf ρ S σ Hf H d S1 _ M hd fun φ1 v Hf1 H1 e1 s1 M1 r1 => ?_
          refine ho φ1 _ _ ρ σ Hf1 H1 _ _ M1.sr h1 fun v2 Hf2 H2 g2 r2 => ?_
          have M2 := M1.gr g2
          cases r2 with
          | obj hi =>
            obtain ⟨a, q1, q3, q0⟩ := M2.cl.at_ _ _ h2
            rw [hi] at q1
            cases q1
            obtain ⟨dx, vs0, q2, q4, q5⟩ := q0.ins h0
            refine ⟨_, _, _, _, rfl, q2, hc, hna, by rw [List.length_zip]; omega, ?_⟩
            obtain ⟨w1, w2⟩ := putF_A f v q4
            have M3 := M2.setO (o' := ⟨o'.k, o'.c, putAK o'.fs f, putAX f d o'.fs o'.xs⟩) h2 hi (u := .ins (He.ga X.K o'.c) dx (putF f v (o'.fs.zip vs0))) (by
              rw [h0]
              exact .mk_ins (vs := putAX f v o'.fs vs0) (dx := dx) (by rw [w1]) w2 (q5.putAX (r1.mono g2.f)))
            have e3 : putA S1 i f d = S1.set i ⟨o'.k, o'.c, putAK o'.fs f, putAX f d o'.fs o'.xs⟩ := by unfold putA; rw [h2]
            rw [e3] at P
            exact P φ1 _ Hf2 _ e1 (s1.trans g2.f) M3
        · cases hF
      · cases hF
    · cases hF
  · cases hF
/-- e.f of an object, as it stands -/
def mFld (c f : Str) (M1 : Env → List Ob → Option (D × List Ob)) : Env → List Ob → Option (D × List Ob) := fun ρ S => match M1 ρ S with
  | some (.obj i, S1) => (match S1[i]? with | some o => if o.k = .ins ∧ o.c = c then (match dget f o.fs o.xs with | some d => some (d, S1) | none => none) else none | none => none)
  | _ => none
theorem lookup_dget (f : Str) : ∀ (fs : List Str) (ws : List V), (fs.zip ws).lookup f = dget f fs ws
  | [], _ => by unfold dget; rfl
  | _ :: _, [] => by unfold dget; rfl
  | g :: fs, w :: ws => by
    show (match f == g with | true => some w | false => (fs.zip ws).lookup f) = _
    unfold dget
    by_cases e : g = f
    · subst e; simp
    · rw [if_neg e, show (f == g) = false from by simpa using Ne.symm e]
      exact lookup_dget f fs ws
theorem me_fld (hc : Cls X.K (He.ga X.K c)) (hna : NoAttr X.K (He.ga X.K c) f) (h : ME X O e M1) (hab : attributeBase e f X.env (eval e X.env) = eval e X.env := by rfl) : ME X O (.Attribute e f pos) (mFld c f M1) := fun φ B Bf ρ S σ Hf H d S' Q M hF q => by
  unfold mFld at hF
  split at hF
  · rename_i i S1 h1
    split at hF
    · rename_i o' h2
      split at hF
      · rename_i h3
        obtain ⟨h0, rfl⟩ := h3
        split at hF
        · rename_i d' h4
          cases hF
          refine toE (pe_fld peW hab) ?_
          refine h φ B Bf ρ S σ Hf H _ _ _ M h1 fun φ1 v Hf1 H1 e1 s1 M1 r1 => ?_
          cases r1 with
          | obj hi =>
            obtain ⟨a, q1, q3, q0⟩ := M1.cl.at_ _ _ h2
            rw [hi] at q1
            cases q1
            obtain ⟨dx, vs0, q2, q4, q5⟩ := q0.ins h0
            obtain ⟨v, w1, w2⟩ := (RpAll.dget f o'.fs q5).1 _ h4
            exact ⟨_, _, _, _, v, rfl, q2, hc, hna, by rw [lookup_dget]; exact w1, q φ1 v Hf1 H1 e1 s1 M1 w2⟩
        · cases hF
      · cases hF
    · cases hF
  · cases hF
/-! objects whose __init__ changes them -/
structure CalCM (P : Program) (w : World) (K : PySem.W.Frag) (mg : Str → Option Value) (base : Heap) (k : Nat) (c : Str) (n : Nat) (mir : List D → List Ob → Option (D × List Ob)) : Prop where
  ok : ∃ (f : Addr) (fd : FuncData) (ps : List Str), FnOk P w K mg base CX0 k f fd ps (spE K (n + 1) mir) ∧ Mk K (He.ga K c) f ∧ mg c = some (.ref (He.ga K c)) ∧ Binds K fd ps []
/-- .. with the last arguments left to the defaults -/
structure CalCD (P : Program) (w : World) (K : PySem.W.Frag) (mg : Str → Option Value) (base : Heap) (k : Nat) (c : Str) (n : Nat) (mir : List D → List Ob → Option (D × List Ob)) (df : List D) : Prop where
  ok : ∃ (f : Addr) (fd : FuncData) (ps : List Str) (ds : List Value) (dvs : List V), FnOk P w K mg base CX0 k f fd ps (spE K (n + 1) mir) ∧ Mk K (He.ga K c) f ∧ mg c = some (.ref (He.ga K c)) ∧ Binds K fd ps ds ∧ Vals dvs ds ∧ ∀ φ H, RpAll K φ H df dvs
theorem CalCM.d {P : Program} {w : World} {K : PySem.W.Frag} {mg : Str → Option Value} {base : Heap} (h : CalCM P w K mg base k c n mir) : CalCD P w K mg base k c n mir [] := by
  obtain ⟨f, fd, ps, a, b, c, d⟩ := h.ok
  exact ⟨f, fd, ps, [], [], a, b, c, d, .nil, fun _ _ => .nil⟩
def mNewM (c : Str) (n : Nat) (mir : List D → List Ob → Option (D × List Ob)) (df : List D) (A : Env → List Ob → Option (List D × List Ob)) : Env → List Ob → Option (D × List Ob) := fun ρ S => match A ρ S with
  | some (ds, S1) => if (ds ++ df).length = n then (match mir (.obj S1.length :: (ds ++ df)) (S1 ++ [⟨.ins, c, [], []⟩]) with | some (.non, S2) => some (.obj S1.length, S2) | _ => none) else none
  | none => none
theorem newM_go {K : PySem.W.Frag} {φ1 : Nat → Option Addr} {B Bf : Hp} {ρ : Env} {S1 S2 : List Ob} {σ : L2.St} {Hf1 H1 : Hp} {ds df : List D} {vs dvs : List V} {Q : VK} (M1 : MSR K φ1 B Bf O ρ S1 σ Hf1 H1) (r1 : RpAll K φ1 Hf1 ds vs) (rd : ∀ φ H, RpAll K φ H df dvs) (hl : (ds ++ df).length = n)
    (hm : mir (.obj S1.length :: (ds ++ df)) (S1 ++ [⟨.ins, c, [], []⟩]) = some (.non, S2)) (q : ∀ φ' v Hf' H', Ext φ1 φ' → Same Hf1 Hf' → MSR K φ' B Bf O ρ S2 σ Hf' H' → Rp K φ' Hf' (.obj S1.length) v → Q v H') :
    ∀ x dx, H1 x = none → H1 dx = none → dx ≠ x → spE K (n + 1) mir (.ref x :: (vs ++ dvs)) (upd (upd H1 dx (.own x)) x (.ins (He.ga K c) dx [])) (fun v H2 => v = .non ∧ Q (.ref x) H2) (fun _ _ _ => False) := by
  intro x dx hx hdx hne
  have hs1 : Same H1 (upd (upd H1 dx (.own x)) x (.ins (He.ga K c) dx [])) := (same_upd hdx).trans (same_upd (by rw [upd_ne (fun z => hne z.symm)]; exact hx))
  have M2 := M1.gr (Hf1 := Hf1) (H1 := upd (upd H1 dx (.own x)) x (.ins (He.ga K c) dx [])) ⟨Same.refl _, hs1, M1.sub.trans hs1, fun _ _ _ z => z⟩
  have hB : B x = none := by
    cases hq : B x with
    | none => rfl
    | some u => rw [M1.fb _ _ hq] at hx; cases hx
  have new : ∀ i, φ1 i ≠ some x := fun i hi => by
    by_cases hl : i < S1.length
    · obtain ⟨_, z, _⟩ := M1.cl.get ⟨i, hl, hi⟩
      rw [hx] at z; cases z
    · rw [M1.cl.out i (by omega)] at hi; cases hi
  have hown : ∀ i d, ρ[i]? = some (some d) → i ∈ O → σ[i]? ≠ some (some (.ref x)) := fun i d hd hi z => by
    obtain ⟨a, xs', vs', q1, q2, q3, _⟩ := M1.own i d hd hi
    rw [z] at q2
    cases q2
    rw [hx] at q3; cases q3
  obtain ⟨ex, M3⟩ := M2.add (o := ⟨.ins, c, [], []⟩) (x := x) (.mk_ins (vs := []) (dx := dx) (by rw [upd_same]; rfl) rfl .nil) (M1.sub.free hx) hB new hown
  have hobj : nphi φ1 S1.length x S1.length = some x := by unfold nphi; rw [if_pos rfl]
  refine M3.into (ds := .obj S1.length :: (ds ++ df)) (.cons (.obj hobj) ((RpAll.ext ex r1).append (rd _ _))) (by simp at hl ⊢; omega) hm fun φ3 v Hf3 H3 e3 s3 M4 r4 => ?_
  cases r4
  exact ⟨rfl, q φ3 (.ref x) Hf3 H3 (ex.trans e3) s3 M4 (.obj (e3 _ _ hobj))⟩
theorem me_newM {df : List D} (cc : CalCD X.prog X.w X.K X.mg X.base j c n mir df) (hr : Room k X.A) (hk : j + 1 ≤ k) (hg : Gl X c) (ha : MA X O (e :: es) A1) (hdb : (c == ("__debug__" : Str)) = false := by decide +kernel) (he : starEach (e :: es) X.env = (false, eval e X.env) :: starEach es X.env := by rfl)
    (hpl : (backTo pos (starEach es X.env)).any (·.1) = false := by rfl) : ME X O (.Call (.Name c p) (e :: es) [] pos) (mNewM c n mir df A1) := by
  obtain ⟨f, fd, ps, ds0, dvs, Fn, Mk, hm, hb, hv, rd⟩ := cc.ok
  intro φ B Bf ρ S σ Hf H d S' Q M hF q
  unfold mNewM at hF
  split at hF
  · rename_i ds S1 h1
    split at hF
    · rename_i hl
      split at hF
      · rename_i S2 h2
        cases hF
        refine toE (pe_make Mk Fn (hr.mono hk) hg hm hb hv pass0 paW hdb he hpl) ?_
        refine ha φ B Bf ρ S σ Hf H ds S1 _ M h1 fun φ1 vs Hf1 H1 e1 s1 M1 r1 => ?_
        exact newM_go M1 r1 rd hl h2 fun φ' v Hf' H' e2 s2 M2 r2 => q φ' v Hf' H' (e1.trans e2) (s1.trans s2) M2 r2
      · cases hF
    · cases hF
  · cases hF
theorem me_newM0 {df : List D} (cc : CalCD X.prog X.w X.K X.mg X.base j c n mir df) (hr : Room k X.A) (hk : j + 1 ≤ k) (hg : Gl X c) (hdb : (c == ("__debug__" : Str)) = false := by decide +kernel) : ME X O (.Call (.Name c p) [] [] pos) (mNewM c n mir df qNil) := by
  obtain ⟨f, fd, ps, ds0, dvs, Fn, Mk, hm, hb, hv, rd⟩ := cc.ok
  intro φ B Bf ρ S σ Hf H d S' Q M hF q
  unfold mNewM at hF
  split at hF
  · rename_i ds S1 h1
    cases h1
    split at hF
    · rename_i hl
      split at hF
      · rename_i S2 h2
        cases hF
        refine toE (pe_make0 Mk Fn (hr.mono hk) hg hm hb hv pass0 hdb) ?_
        show tMake _ _ _ _ L2.tNil σ H Q
        exact newM_go M .nil rd hl h2 q
      · cases hF
    · cases hF
  · cases hF
/-! a, (b, c) = e -/
def mAsg (g : D → Env → Option Env) (M1 : Env → List Ob → Option (D × List Ob)) : Env → List Ob → Option MOut := fun ρ S => match M1 ρ S with | some (d, S1) => (match g d ρ with | some ρ1 => some (.nx ρ1 S1) | none => none) | none => none
theorem ms_asg {tgs : List Nat} {tg : Expr} {g : D → Env → Option Env} (h : ME X O e M1) (hg : FG X O O1 tgs tg g) (hs : swapsWithSole [tg] e pos.line X.env = pure false := by rfl) (hw : swappedStores [tg] e X.env = pure none := by rfl) (h1 : (assignEach [tg] X.env).map (·.2) = [assign tg X.env] := by rfl) :
    MS X O O1 (.Assign [tg] e pos) (mAsg g M1) := fun φ B Bf ρ S σ Hf H out Dn M hF P => by
  unfold mAsg at hF
  split at hF
  · rename_i d S1 hd
    split at hF
    · rename_i ρ1 hρ
      cases hF
      refine toS (ps_asg peW pgW hs hw h1) ?_
      refine h φ B Bf ρ S σ Hf H d S1 _ M hd fun φ1 v Hf1 H1 e1 s1 M1 r1 => ?_
      exact hg φ1 _ _ ρ σ Hf1 H1 d v ρ1 _ M1.sr r1 hρ fun σ' S2 _ => P φ1 σ' Hf1 H1 e1 s1 (M1.step S2)
    · cases hF
  · cases hF
theorem ms_exM (h : ME X O e M1) (hs : swapsWith e none pos.line X.env = pure false := by rfl) : MS X O O (.Expr e pos) (mEx M1) := ms_expr (O' := []) h hs
end
end FL
/-! ### a def read off its class -/
namespace FL
open PySem PySem.Spec L2
/-- C.m, a def -/
structure CFn (K : PySem.W.Frag) (C : Addr) (m : Str) (f : Addr) : Prop where
  rd : PySem.W.readsIn K C (.type "type") = true
  ga : PySem.W.specialIn K (.ref C) "__getattribute__" = some (some (.builtin "type.__getattribute__"))
  at_ : PySem.W.findCls K (.ref C) (.type "type") m = some (.val (.ref f))
  ty : PySem.W.typeIn K (.ref f) = some (.type "function")
  kp : PySem.W.keepIn K (.ref f) = true
def cfnB (K : PySem.W.Frag) (c m : Str) : Bool :=
  PySem.W.readsIn K (He.ga K c) (.type "type") && (He.eqO (PySem.W.specialIn K (.ref (He.ga K c)) "__getattribute__") (some (some (.builtin "type.__getattribute__"))) &&
    ((match PySem.W.findCls K (.ref (He.ga K c)) (.type "type") m with | some (.val (.ref f)) => decide (f = He.ma K (He.ga K c) m) | _ => false) &&
    (decide (PySem.W.typeIn K (.ref (He.ma K (He.ga K c) m)) = some (.type "function")) && PySem.W.keepIn K (.ref (He.ma K (He.ga K c) m)))))
theorem cfn_ok {K : PySem.W.Frag} {c m : Str} (h : cfnB K c m = true) : CFn K (He.ga K c) m (He.ma K (He.ga K c) m) := by
  unfold cfnB at h
  simp only [Bool.and_eq_true] at h
  obtain ⟨h1, h2, h3, h4, h5⟩ := h
  refine ⟨h1, He.eqO_ok h2, ?_, of_decide_eq_true h4, h5⟩
  split at h3
  · rename_i f e
    rw [e, of_decide_eq_true h3]
  · cases h3
section
variable {X : Cx} {O : List Nat} {e o : Expr} {es : List Expr} {c m x f : Str} {p pos apos : Pos} {C fa : Addr} {CX : CXT} {k j n : Nat} {fd : FuncData} {ps : List Str} {sp : Sp} {dvs : List V} {ds : List Value} {E : XK} {ta : TE} {t : TA} {A1 : Env → List Ob → Option (List D × List Ob)} {M1 : Env → List Ob → Option (D × List Ob)} {mir : List D → List Ob → Option (D × List Ob)}
def tCFn (C : Addr) (sp : Sp) (dvs : List V) (E : XK) (ta : TE) (t : TA) : TE := fun σ H Q => ta σ H fun x H1 => x = .ref C ∧ t σ H1 fun vs H2 => sp (vs ++ dvs) H2 Q E
theorem pe_cfn {pl : Sem Bool} (he : PE X o ta) (c : CFn X.K C m fa) (F : FnOk X.prog X.w X.K X.mg X.base CX k fa fd ps sp) (hr : Room k X.A) (hb : Binds X.K fd ps ds) (hd : Vals dvs ds) (hx : Passes CX X E) (ha : PA X (e :: es) t)
    (hst : starEach (e :: es) X.env = (false, eval e X.env) :: starEach es X.env := by rfl) (hpl : (backTo pos (starEach es X.env)).any (·.1) = false := by rfl)
    (ht : eval (.Call (.Attribute o m apos) (e :: es) [] pos) X.env = (do
      let ov ← eval o X.env
      standAt apos.atName
      let (f, first) ← holding [ov] (getMethod ov m pl)
      callWith pos f first (backTo pos (starEach (e :: es) X.env)) (backToKw pos (keywordEach [] X.env))) := by rfl) :
    PE X (.Call (.Attribute o m apos) (e :: es) [] pos) (tCFn C sp dvs E ta t) := by
  refine ⟨fun pins s σ H Q I h => ?_⟩
  refine PySem.W.methodCall_KW (pl := pl) (thn (he.run pins s σ H _ I h) fun u s1 ⟨x, H1, I1, rx, ex, q⟩ => ?_) ht
  subst ex
  obtain rfl : u = Value.ref C := rx
  refine PySem.W.method_cls I1.kIn c.ga (PySem.W.cls_value I1.kIn c.rd c.at_ rfl ?_)
  have I2 := I1.tok (s1.toks + 1)
  refine PySem.W.callWith_K (first := []) (h₀ := X.base) I.ok.mod.kin c.kp (thn (ha.run pos pins _ σ H1 _ I2 q) fun us s2 ⟨vs, H2, I3, r, q2⟩ => ⟨I3.kIn, ?_⟩) hst hpl
  exact run_fn (us := us) (vs := vs) F hr hb hd hx I3 r q2
/-- the promise of a def that is read off its class -/
structure CalCF (P : Program) (w : World) (K : PySem.W.Frag) (mg : Str → Option Value) (base : Heap) (k : Nat) (c m : Str) (n : Nat) (mir : List D → List Ob → Option (D × List Ob)) : Prop where
  ok : ∃ (f : Addr) (fd : FuncData) (ps : List Str), FnOk P w K mg base CX0 k f fd ps (spE K n mir) ∧ mg c = some (.ref (He.ga K c)) ∧ CFn K (He.ga K c) m f ∧ Binds K fd ps []
theorem me_cfn {pl : Sem Bool} (cm : CalCF X.prog X.w X.K X.mg X.base j c m n mir) (hr : Room k X.A) (hk : j ≤ k) (hg : Gl X c) (ha : MA X O (e :: es) A1) (hdb : (c == ("__debug__" : Str)) = false := by decide +kernel)
    (hst : starEach (e :: es) X.env = (false, eval e X.env) :: starEach es X.env := by rfl) (hpl : (backTo pos (starEach es X.env)).any (·.1) = false := by rfl)
    (ht : eval (.Call (.Attribute (.Name c p) m apos) (e :: es) [] pos) X.env = (do
      let ov ← eval (.Name c p) X.env
      standAt apos.atName
      let (f, first) ← holding [ov] (getMethod ov m pl)
      callWith pos f first (backTo pos (starEach (e :: es) X.env)) (backToKw pos (keywordEach [] X.env))) := by rfl) : ME X O (.Call (.Attribute (.Name c p) m apos) (e :: es) [] pos) (mCall n mir A1) := by
  obtain ⟨f, fd, ps, Fn, hmg, hc, hb⟩ := cm.ok
  intro φ B Bf ρ S σ Hf H d S' Q M hF q
  unfold mCall at hF
  split at hF
  · rename_i ds S1 h1
    split at hF
    · rename_i hl
      refine toE (pe_cfn (pl := pl) (pe_glob hg hmg (v := .ref (He.ga X.K c)) rfl hdb) hc Fn (hr.mono hk) hb .nil pass0 paW hst hpl ht) ?_
      refine ⟨rfl, ?_⟩
      refine ha φ B Bf ρ S σ Hf H ds S1 _ M h1 fun φ1 vs Hf1 H1 e1 s1 M1 r1 => ?_
      exact M1.into (by rw [List.append_nil]; exact r1) hl hF fun φ2 v Hf2 H2 e2 s2 M2 r2 => q φ2 v Hf2 H2 (e1.trans e2) (s1.trans s2) M2 r2
    · cases hF
  · cases hF
/-! ### properties -/
def pAd (K : PySem.W.Frag) (C : Addr) (f : Str) : Addr := match PySem.W.recIn K (He.ma K C f) "property" with
  | some (.ref g :: _) => g
  | _ => 0
def propB (K : PySem.W.Frag) (c f : Str) : Bool :=
  He.eqO (PySem.W.findIn K (.ref (He.ga K c)) f) (some (some (.ref (He.ma K (He.ga K c) f)))) && (He.eqO (PySem.W.specialIn K (.ref (He.ma K (He.ga K c) f)) "__get__") (some (some (.builtin "property.__get__"))) &&
    (decide (PySem.W.takesIn K (.ref (He.ma K (He.ga K c) f)) = some true) && (match PySem.W.recIn K (He.ma K (He.ga K c) f) "property" with | some (.ref g :: _) => decide (g = pAd K (He.ga K c) f) | _ => false)))
theorem prop_ok {K : PySem.W.Frag} {c f : Str} (h : propB K c f = true) : PropOf K (He.ga K c) f (He.ma K (He.ga K c) f) (pAd K (He.ga K c) f) := by
  unfold propB at h
  simp only [Bool.and_eq_true] at h
  obtain ⟨h1, h2, h3, h4⟩ := h
  refine ⟨He.eqO_ok h1, He.eqO_ok h2, of_decide_eq_true h3, ?_⟩
  split at h4
  · rename_i g rest e
    exact ⟨rest, by rw [e, of_decide_eq_true h4]⟩
  · cases h4
/-- a property whose getter changes nothing -/
structure CalP (P : Program) (w : World) (K : PySem.W.Frag) (mg : Str → Option Value) (base : Heap) (k : Nat) (c f : Str) (fr : Bool) (m : List D → Option D) : Prop where
  ok : ∃ (p g : Addr) (fd : FuncData) (ps : List Str), FnOk P w K mg base CX0 k g fd ps (spF K fr 1 m) ∧ Cls K (He.ga K c) ∧ PropOf K (He.ga K c) f p g ∧ Binds K fd ps []
def eP (c : Str) (m : List D → Option D) (Fo : Env → Option D) : Env → Option D := fun ρ => match Fo ρ with
  | some (.ins c' fs xs) => if c' = c then m [.ins c' fs xs] else none
  | _ => none
theorem eP_some {Fo : Env → Option D} {mm : List D → Option D} {ρ : Env} {d : D} (h : eP c mm Fo ρ = some d) : ∃ fs xs, Fo ρ = some (.ins c fs xs) ∧ mm [.ins c fs xs] = some d := by
  unfold eP at h
  split at h
  · rename_i c' fs xs h1
    split at h
    · rename_i h2
      subst h2
      exact ⟨fs, xs, h1, h⟩
    · cases h
  · cases h
theorem fe_prop {mm : List D → Option D} {Fo : Env → Option D} (cp : CalP X.prog X.w X.K X.mg X.base j c f false mm) (hr : Room k X.A) (hk : j + 1 ≤ k) (ho : FE X O o Fo) (hab : attributeBase o f X.env (eval o X.env) = eval o X.env := by rfl) : FE X O (.Attribute o f pos) (eP c mm Fo) := by
  obtain ⟨p, g, fd, ps, Fn, hc, hp, hb⟩ := cp.ok
  intro φ Hf0 H0 ρ σ Hf H d Q S hF q
  obtain ⟨fs, xs, h1, h2⟩ := eP_some hF
  refine toE (pe_prop peW hc hp Fn (hr.mono hk) hb .nil pass0 hab) ?_
  refine ho φ Hf0 H0 ρ σ Hf H _ _ S h1 fun v Hf1 H1 g1 r1 => ?_
  cases r1 with
  | @ins a _ dx _ vs _ s l r =>
    refine ⟨a, _, _, rfl, g1.s _ _ s, φ, Hf1, [.ins c fs xs], d, g1.s, .cons (.ins s l r) .nil, rfl, h2, fun v2 Hf2 H2 g2 r2 => q v2 Hf2 H2 (g1.trans g2) r2⟩
theorem fn_prop {mm : List D → Option D} {Fo : Env → Option D} (cp : CalP X.prog X.w X.K X.mg X.base j c f true mm) (hr : Room k X.A) (hk : j + 1 ≤ k) (ho : FE X O o Fo) (hab : attributeBase o f X.env (eval o X.env) = eval o X.env := by rfl) : FN X O (.Attribute o f pos) (eP c mm Fo) := by
  obtain ⟨p, g, fd, ps, Fn, hc, hp, hb⟩ := cp.ok
  intro φ Hf0 H0 ρ σ Hf H d Q S hF q
  obtain ⟨fs, xs, h1, h2⟩ := eP_some hF
  refine toE (pe_prop peW hc hp Fn (hr.mono hk) hb .nil pass0 hab) ?_
  refine ho φ Hf0 H0 ρ σ Hf H _ _ S h1 fun v Hf1 H1 g1 r1 => ?_
  cases r1 with
  | @ins a _ dx _ vs _ s l r =>
    refine ⟨a, _, _, rfl, g1.s _ _ s, φ, Hf1, [.ins c fs xs], d, g1.s, .cons (.ins s l r) .nil, rfl, h2, fun a2 ys us Hf2 H2 hd g2 q1 q2 q3 r2 => q a2 ys us Hf2 H2 hd (g1.trans g2) (g1.h.free q1) q2 q3 r2⟩
end
end FL
namespace FL
open PySem PySem.Spec L2

/-! ### the head's facts: getters of properties too -/
def fnAW (K : PySem.W.Frag) (a : Addr) : He.FnW := match K.lookup a with
  | some ⟨_, _, .func fd, _⟩ => some (fd.name, fd.qualname, fd.params, fd.body, fd.scope, fd.globals, fd.closure, fd.builtins)
  | _ => none
def okAt (K : PySem.W.Frag) (d : He.DefD) (a : Addr) : Bool := PySem.W.keepIn K (.ref a) && (match K.lookup a with
  | some ⟨_, _, .func fd, _⟩ => PySem.W.codeIn K fd.code d.qual && (He.dflB K fd.defaults (d.dvs K) && He.kwdB K fd.kwdefaults (d.kws K))
  | _ => false)
theorem funD_at {K : PySem.W.Frag} {d : He.DefD} {a : Addr} (e : fnAW K a = d.val) (c : okAt K d a = true) : ∃ fd, FunD K d.name d.qual d.params d.body d.scope (d.dvs K) (d.kws K) a fd := by
  obtain ⟨kp, c2⟩ := He.ba c
  unfold fnAW at e
  cases q : K.lookup a with
  | none =>
    rw [q] at c2
    cases c2
  | some o =>
    obtain ⟨oc, od, dt, osl⟩ := o
    rw [q] at c2 e
    cases dt with
    | func fd =>
      obtain ⟨m1, m2, m3, m4, m5, m6, m7, m8, m9, m10, m11, m12, m13, m14, m15⟩ := fd
      have e2 : (some (m1, m2, m3, m4, m5, m6, m7, m15) : He.FnW) = some (d.name, d.qual, d.params, .stmts d.body, d.scope, mainGlobals, [], builtinsNs) := e
      simp only [Option.some.injEq, Prod.mk.injEq] at e2
      obtain ⟨h1, h2, h3, h4, h5, h6, h7, h8⟩ := e2
      subst h1 h2 h3 h4 h5 h6 h7 h8
      have c3 : (PySem.W.codeIn K m13 d.qual && (He.dflB K m8 (d.dvs K) && He.kwdB K m9 (d.kws K))) = true := c2
      obtain ⟨k1, k2⟩ := He.ba c3
      obtain ⟨k3, k4⟩ := He.ba k2
      exact ⟨_, ⟨oc, od, m8, m9, m10, m11, m12, m13, m14, osl, rfl, q, k1, He.dflB_ok k3, He.kwdB_ok k4⟩, kp⟩
    | _ => cases c2
/-- class, property, its getter -/
abbrev PrD : Type := Str × Str × He.DefD
def prA (K : PySem.W.Frag) (q : PrD) : Addr := pAd K (He.ga K q.1) q.2.1
abbrev AlP : Type := AlG × (Bool × List He.FnW)
def obsPr (ps : List PrD) (K : PySem.W.Frag) : Bool × List He.FnW := (ps.all fun q => okAt K q.2.2 (prA K q), ps.map fun q => fnAW K (prA K q))
def valPr (ps : List PrD) : Bool × List He.FnW := (true, ps.map fun q => q.2.2.val)
def asP (g : Addr → Option Obj) (n : Nat) : List Addr := PySem.cStatics :: He.asD g n
def obsPK (fa : List He.Fa) (fn : List He.DefD) (ex : PySem.W.Frag → Bool) (ts : List He.Tab) (ps : List PrD) (K : PySem.W.Frag) : AlP := (((He.obsD fa fn K, ex K), ts.map fun t => He.dicW K (t.1 K)), obsPr ps K)
def obsP (n : Nat) (fa : List He.Fa) (fn : List He.DefD) (ex : PySem.W.Frag → Bool) (ts : List He.Tab) (ps : List PrD) (g : Addr → Option Obj) : AlP := obsPK fa fn ex ts ps (He.frG g (asP g n))
def SaysP (fa : List He.Fa) (fn : List He.DefD) (ex : PySem.W.Frag → Bool) (ts : List He.Tab) (ps : List PrD) (w : World) (K : PySem.W.Frag) : Prop := SaysG fa fn ex ts w K ∧ obsPr ps K = valPr ps
def hookP (n : Nat) (fa : List He.Fa) (fn : List He.DefD) (ex : PySem.W.Frag → Bool) (ts : List He.Tab) (ps : List PrD) : PySem.W.Hook where
  α := AlP
  obs := fun s => obsP n fa fn ex ts ps s.heap.get?
  val := fun w => (((He.valD fn, true), ts.map fun t => some (He.keysIn w.params t.2)), valPr ps)
  says := fun w h => ∃ K : PySem.W.Frag, K.In h ∧ SaysP fa fn ex ts ps w K
  of := fun w _ e => ⟨_, He.frG_in, ⟨⟨congrArg (fun z : AlP => z.1.1.1) e, congrArg (fun z : AlP => z.1.1.2) e⟩, (congrArg (fun z : AlP => z.1.2) e : _ = ts.map fun t => some (He.keysIn w.params t.2))⟩, congrArg (fun z : AlP => z.2) e⟩
  keeps := fun _ _ _ ⟨K, hK, c⟩ k => ⟨K, PySem.W.Frag.In.keeps hK k, c⟩
theorem obsP_eq {n : Nat} {fa : List He.Fa} {fn : List He.DefD} {ex : PySem.W.Frag → Bool} {ts : List He.Tab} {ps : List PrD} {g : Addr → Option Obj} {s : Shared} (h : ∀ a, g a = s.heap.get? a) : obsP n fa fn ex ts ps g = (hookP n fa fn ex ts ps).obs s := by
  have e : g = s.heap.get? := funext h
  rw [e] <;> rfl
theorem getter_of {fa : List He.Fa} {fn : List He.DefD} {ex : PySem.W.Frag → Bool} {ts : List He.Tab} {ps : List PrD} {w : World} {K : PySem.W.Frag} (c : SaysP fa fn ex ts ps w K) (i : Nat) {q : PrD} (h : ps[i]? = some q := by rfl) :
    ∃ fd, FunD K q.2.2.name q.2.2.qual q.2.2.params q.2.2.body q.2.2.scope (q.2.2.dvs K) (q.2.2.kws K) (prA K q) fd := by
  have c1 : (ps.all fun q => okAt K q.2.2 (prA K q)) = true := congrArg (fun z : Bool × List He.FnW => z.1) c.2
  have e : (ps.map fun q => fnAW K (prA K q)) = ps.map fun q => q.2.2.val := congrArg (fun z : Bool × List He.FnW => z.2) c.2
  have e2 : (ps.map fun q => fnAW K (prA K q))[i]? = (ps.map fun q => q.2.2.val)[i]? := by rw [e]
  rw [List.getElem?_map, List.getElem?_map, h] at e2
  exact funD_at (Option.some.inj e2) (List.all_eq_true.mp c1 q (List.mem_of_getElem? h))
/-! ### promises -/
section
variable {P : Program} {w : World} {K : PySem.W.Frag} {mg : Str → Option Value} {base : Heap} {k : Nat} {a : Addr} {ps N : List Str} {x q c m f : Str} {st : Stmt} {G : Env → List Ob → Option MOut} {Gp : Env → Option Out} {dvs : List V} {kws : List (Str × V)}
theorem calP_of {N' : Nat} (Dd : FnAt K f q st [] [] (pAd K (He.ga K c) f)) (hc : Cls K (He.ga K c)) (hp : propB K c f = true) (S : FnScope N ps (defScope st)) (hN : N' = N.length) (hn : 1 = ps.length)
    (hbind : ∀ (kV doc pm : Value) (an : Option Addr) (cdv ct : Value) (us : List Value), us.length = ps.length → bindArgs (PySem.W.fnOf f q (defArgs st) (defBody st) (defScope st) .none kV doc pm an cdv ct) ⟨us, []⟩ = pure (ps.zip us))
    {fr : Bool} (O' : List Nat)
    (hb : ∀ (cdv : Value) (A : Around) (outer : List PySem.Env) (s : Shared) (H : Hp) (E : XK), Room k (A.deeper (PyProof.Rows.envOfC q (defScope st) s.heap.objs.size (pAd K (He.ga K c) f) cdv)) →
      FSs (cxOf CX0 P w K mg base N q (defScope st) (pAd K (He.ga K c) f) cdv A outer s H E).nox fr [] [] O' (defBody st) Gp) : CalP P w K mg base (k + 1) c f fr (runD fr N' 1 Gp) := by
  obtain ⟨fd, F⟩ := Dd
  exact ⟨_, _, fd, ps, fnOk_by F S hN hn O' hb, hc, prop_ok hp, FunD.bindsN F hbind⟩
theorem calCM_of {N' n : Nat} (Dd : FnAt K "__init__" q st [] [] (He.fAd K (c, some "__init__"))) (hm : Mk K (He.ga K c) (He.ma K (He.ga K c) "__init__")) (hg : mg c = some (.ref (He.ga K c))) (S : FnScope N ps (defScope st)) (hN : N' = N.length) (hn : n + 1 = ps.length)
    (hbind : ∀ (kV doc pm : Value) (an : Option Addr) (cdv ct : Value) (us : List Value), us.length = ps.length → bindArgs (PySem.W.fnOf "__init__" q (defArgs st) (defBody st) (defScope st) .none kV doc pm an cdv ct) ⟨us, []⟩ = pure (ps.zip us))
    (O' : List Nat)
    (hb : ∀ (cdv : Value) (A : Around) (outer : List PySem.Env) (s : Shared) (H : Hp) (E : XK), Room k (A.deeper (PyProof.Rows.envOfC q (defScope st) s.heap.objs.size (He.fAd K (c, some "__init__")) cdv)) →
      MSs (cxOf CX0 P w K mg base N q (defScope st) (He.fAd K (c, some "__init__")) cdv A outer s H E).nox [] O' (defBody st) G) : CalCD P w K mg base (k + 1) c n (runM N' (n + 1) G) [] := by
  obtain ⟨fd, F⟩ := Dd
  exact ⟨_, fd, ps, [], [], fnOk_m F S hN hn O' hb, hm, hg, FunD.bindsN F hbind, .nil, fun _ _ => .nil⟩
/-- with defaults: all written, none written -/
theorem calCM2_of {N' n : Nat} {df : List D} (n0 j : Nat) (Dd : FnAt K "__init__" q st dvs kws (He.fAd K (c, some "__init__"))) (hne : dvs ≠ []) (hm : Mk K (He.ga K c) (He.ma K (He.ga K c) "__init__")) (hg : mg c = some (.ref (He.ga K c))) (S : FnScope N ps (defScope st)) (hN : N' = N.length) (hn : n + 1 = ps.length)
    (hbind : ∀ (T : Addr) (kV doc pm : Value) (an : Option Addr) (cdv ct : Value) (us its : List Value), us.length = ps.length → its.length = dvs.length →
      ∃ k, bindArgs (PySem.W.fnOf "__init__" q (defArgs st) (defBody st) (defScope st) (.ref T) kV doc pm an cdv ct) ⟨us, []⟩ = seqItems? (.ref T) >>= k ∧ k (some its.toArray) = pure (ps.zip (us ++ its.drop dvs.length)))
    (hn0 : n0 + (dvs.length - j) = ps.length)
    (hbind2 : ∀ (T : Addr) (kV doc pm : Value) (an : Option Addr) (cdv ct : Value) (us its : List Value), us.length = n0 → its.length = dvs.length →
      ∃ k, bindArgs (PySem.W.fnOf "__init__" q (defArgs st) (defBody st) (defScope st) (.ref T) kV doc pm an cdv ct) ⟨us, []⟩ = seqItems? (.ref T) >>= k ∧ k (some its.toArray) = pure (ps.zip (us ++ its.drop j)))
    (hdf : ∀ φ H, RpAll K φ H df (dvs.drop j)) (O' : List Nat)
    (hb : ∀ (cdv : Value) (A : Around) (outer : List PySem.Env) (s : Shared) (H : Hp) (E : XK), Room k (A.deeper (PyProof.Rows.envOfC q (defScope st) s.heap.objs.size (He.fAd K (c, some "__init__")) cdv)) →
      MSs (cxOf CX0 P w K mg base N q (defScope st) (He.fAd K (c, some "__init__")) cdv A outer s H E).nox [] O' (defBody st) G) : CalCD P w K mg base (k + 1) c n (runM N' (n + 1) G) [] ∧ CalCD P w K mg base (k + 1) c n (runM N' (n + 1) G) df := by
  obtain ⟨fd, F⟩ := Dd
  have fo := fnOk_m F S hN hn O' hb
  obtain ⟨ds, r, b⟩ := FunD.binds1 (ps := ps) F ps.length dvs.length hne (by rw [Nat.sub_self]; rfl) hbind
  rw [List.drop_length] at r
  cases r
  obtain ⟨ds2, r2, b2⟩ := FunD.binds1 (ps := ps) F n0 j hne hn0 hbind2
  exact ⟨⟨_, fd, ps, [], [], fo, hm, hg, b, .nil, fun _ _ => .nil⟩, ⟨_, fd, ps, ds2, _, fo, hm, hg, b2, r2, hdf⟩⟩
theorem calCF_of {N' n : Nat} (Dd : FnAt K m q st [] kws (He.fAd K (c, some m))) (hg : mg c = some (.ref (He.ga K c))) (hc : cfnB K c m = true) (S : FnScope N ps (defScope st)) (hN : N' = N.length) (hn : n = ps.length)
    (hbind : ∀ (kV doc pm : Value) (an : Option Addr) (cdv ct : Value) (us : List Value), us.length = ps.length → bindArgs (PySem.W.fnOf m q (defArgs st) (defBody st) (defScope st) .none kV doc pm an cdv ct) ⟨us, []⟩ = pure (ps.zip us))
    (O' : List Nat)
    (hb : ∀ (cdv : Value) (A : Around) (outer : List PySem.Env) (s : Shared) (H : Hp) (E : XK), Room k (A.deeper (PyProof.Rows.envOfC q (defScope st) s.heap.objs.size (He.fAd K (c, some m)) cdv)) →
      MSs (cxOf CX0 P w K mg base N q (defScope st) (He.fAd K (c, some m)) cdv A outer s H E).nox [] O' (defBody st) G) : CalCF P w K mg base (k + 1) c m n (runM N' n G) := by
  obtain ⟨fd, F⟩ := Dd
  exact ⟨_, fd, ps, fnOk_m F S hN hn O' hb, hg, cfn_ok hc, FunD.bindsN F hbind⟩
end
end FL
/-! ### {**d, k: v} -/
namespace FL
open PySem PySem.Spec
section
variable {prog : Program} {w : World} {K : Type} [DecidableEq K] {knd : KeyKind prog w K} {A : Around} {E : Value → Shared → Prop} {s : Shared}
theorem dput_pairs {d : Addr} {kvs : List (K × Value)} {k : K} {key v : Value} {Q : Unit → Shared → Prop} (hkey : knd.is k key = true) (hm : s.heap.DictOf knd d kvs)
    (hQ : ∀ h', h'.DictOf knd d (stored kvs k v) → Heap.SameBut d s.heap h' → Q () { s with heap := h' }) (hsz : kvs.length ≤ sizeLine) : wpAny (model prog w) A (dictPut d (knd.hash k) key v) Q E s := by
  obtain ⟨o, es, ep, ho, hc, hd, hk, hp, hn⟩ := hm
  have hes : es.size ≤ sizeLine := by
    have e1 := hp.length
    have e2 : es.toList.length = es.size := by simp
    omega
  have hidx : (es.findIdx? fun e => knd.is k e.key) = kvs.findIdx? fun kv => decide (kv.1 = k) := by
    rw [← hp.findIdx k]; obtain ⟨l⟩ := es; simp
  unfold dictPut
  refine wpAny_bind (wpAny_dictFind_of hkey ho hd hk ?_)
  cases hi : es.findIdx? fun e => knd.is k e.key with
  | some i =>
    refine wpAny_updateDict ho hd (hQ _ ⟨_, _, ep, Heap.get?_update_self _ ho (Obj.isFreed_of_dict (Obj.data_mapDict hd _)), hc.mapDict _, Obj.data_mapDict hd _, hk.modify _ _, ?_, ?_⟩ (Heap.SameBut.update ..))
    · rw [stored, if_pos (any_of_findIdx_some (hidx ▸ hi))]
      have hl : (es.toList.findIdx? fun e => knd.is k e.key) = some i := by rw [← hi]; obtain ⟨l⟩ := es; simp
      have := hp.modify hn hl v
      obtain ⟨l⟩ := es
      simpa using this
    · rw [stored, if_pos (any_of_findIdx_some (hidx ▸ hi)), keys_map_store]; exact hn
  | none =>
    have hnot : k ∉ kvs.map (·.1) := not_mem_of_findIdx_none (hidx ▸ hi)
    have hany : ¬ (kvs.any fun kv => decide (kv.1 = k)) = true := by
      rw [List.any_eq_true]; rintro ⟨kv, hkv, he⟩
      exact hnot (List.mem_map.mpr ⟨kv, hkv, of_decide_eq_true he⟩)
    refine wpAny_updateDictKeys (hz := hes) ho hd (hQ _ ⟨_, _, ep + 1, Heap.get?_update_self _ ho (Obj.isFreed_of_dict (Obj.data_mapDictKeys hd _)), hc.mapDictKeys _, Obj.data_mapDictKeys hd _, hk.push hkey _, ?_, ?_⟩ (Heap.SameBut.update ..))
    · rw [stored, if_neg hany]
      have := hp.append hkey (knd.hash k) v
      obtain ⟨l⟩ := es
      simpa using this
    · rw [stored, if_neg hany, List.map_append, List.nodup_append]
      refine ⟨hn, by simp, ?_⟩
      intro a ha b hb
      simp only [List.map_cons, List.map_nil, List.mem_singleton] at hb
      subst hb
      exact fun e => hnot (e ▸ ha)
theorem noref {knd : KeyKind prog w K} {k : K} {u : Value} (h : knd.is k u = true) : ∀ b, u ≠ .ref b := fun b e => by
  have := knd.byValue _ _ h
  rw [e] at this
  cases this
theorem merge_run {d a : Addr} {kvs more : List (K × Value)} {Q : Unit → Shared → Prop} (hda : d ≠ a) (hoS : (a == sysModules) = false) (hd : s.heap.DictOf knd d kvs) (ho : s.heap.DictOf knd a more)
    (hQ : ∀ h', h'.DictOf knd d (merged kvs more) → Heap.SameBut d s.heap h' → Q () { s with heap := h' }) (hsz : kvs.length + more.length ≤ sizeLine) :
    wpAny (model prog w) A (mergeMapping d (.ref a) false) Q E s := by
  obtain ⟨od, esd, epd, hod, hcd, hdd, hkd, hpd, hnd⟩ := id hd
  obtain ⟨oo, eso, epo, hoo, hco, hdo', hko, hpo, hno⟩ := id ho
  have hlen : more.length = eso.size := by rw [← hpo.length]; simp
  have loop : wpAny (model prog w) A (do
      let l ← dictEntries a
      let epoch ← dictEpoch a
      forIn (List.range l.size) PUnit.unit fun i (_ : PUnit) => (do
          let l' ← dictEntries a
          match l'[i]? with
            | some e => do
              holding [e.key, e.val] (dictPut d e.hash e.key e.val)
              let ep' ← dictEpoch a
              if (ep' != epoch) = true then do
                  (unsupported "dict.changed-during-merge" : Sem PUnit)
                  pure (ForInStep.yield PUnit.unit)
                else pure (ForInStep.yield PUnit.unit)
            | _ => do
              (unsupported "dict.changed-during-merge" : Sem PUnit)
              pure (ForInStep.yield PUnit.unit) : Sem (ForInStep PUnit))
      pure ()) Q E s := by
    refine wpAny_bind (wpAny_dictEntries hoo hdo' ?_)
    refine wpAny_bind (wpAny_dictEpoch hoo hdo' ?_)
    refine wpAny_bind ?_
    rw [List.range_eq_range']
    refine wpAny_forIn_list _
      (fun rest _ s' => ∃ h' i, s' = { s with heap := h' } ∧ rest = List.range' i (eso.size - i) ∧ i ≤ eso.size ∧ h'.DictOf knd d (merged kvs (more.take i)) ∧ h'.get? a = some oo ∧ Heap.SameBut d s.heap h')
      _ ?_ ?_ _ _ ⟨s.heap, 0, rfl, by simp, Nat.zero_le _, by simpa [merged] using hd, hoo, Heap.SameBut.refl _ _⟩
    · rintro x rest b s' ⟨h', i, rfl, hr, hi, hd', hoo', hs'⟩
      have hlt : i < eso.size := by
        rcases Nat.lt_or_ge i eso.size with h | h
        · exact h
        · rw [Nat.sub_eq_zero_of_le h] at hr; simp at hr
      obtain ⟨rfl, hrest⟩ : x = i ∧ rest = List.range' (i + 1) (eso.size - (i + 1)) := by
        have e : eso.size - i = (eso.size - (i + 1)) + 1 := by omega
        rw [e, List.range'_succ] at hr
        injection hr with h1 h2
        exact ⟨h1, h2⟩
      refine wpAny_bind (wpAny_dictEntries hoo' hdo' ?_)
      rw [Array.getElem?_eq_getElem hlt]
      obtain ⟨kv, hkv⟩ : ∃ kv, more[x]? = some kv := ⟨more[x]'(by rw [hlen]; exact hlt), List.getElem?_eq_getElem _⟩
      obtain ⟨k, v⟩ := kv
      obtain ⟨hkey, hval⟩ := hpo.get? (e := eso[x]) (by simp [hlt]) hkv
      obtain ⟨k', hkey', hhash⟩ := hko eso[x] (Array.getElem_mem hlt)
      obtain rfl : k' = k := knd.inj _ _ _ hkey' hkey
      show wpAny _ _ (holding [eso[x].key, eso[x].val] (dictPut d eso[x].hash eso[x].key eso[x].val) >>= _) _ _ _
      rw [hhash, hval]
      have hmx : (merged kvs (more.take x)).length ≤ sizeLine := by
        have e1 := merged_length_le kvs (more.take x)
        have e2 : (more.take x).length ≤ more.length := by rw [List.length_take]; omega
        omega
      refine wpAny_bind (wpAny_holding (dput_pairs (s := { s with heap := h' }) hkey hd' (fun h'' hd'' hs'' => ?_) hmx))
      have hoo'' : h''.get? a = some oo := (hs''.2 a (Ne.symm hda)).trans hoo'
      refine wpAny_bind (wpAny_dictEpoch hoo'' hdo' ?_)
      rw [if_neg (by simp)]
      exact wpAny_pure ⟨h'', x + 1, rfl, hrest, hlt, by rw [merged_take_succ kvs more x (k', v) hkv]; exact hd'', hoo'', hs'.trans hs''⟩
    · rintro b s' ⟨h', i, rfl, hr, hi, hd', hoo', hs'⟩
      have hin : i = eso.size := by
        rcases Nat.lt_or_ge i eso.size with h | h
        · have e : eso.size - i = (eso.size - (i + 1)) + 1 := by omega
          rw [e, List.range'_succ] at hr; exact nomatch hr
        · exact Nat.le_antisymm hi h
      refine wpAny_pure (hQ h' ?_ hs')
      rw [hin, ← hlen, List.take_length] at hd'; exact hd'
  unfold mergeMapping
  refine wpAny_bind (wpAny_isInstance ho.typeIs isSubtype_dict_dict ?_)
  rw [if_pos rfl]
  refine wpAny_bind (wpAny_specialOf ho.typeIs F.slot_dict_iter.lookup (wpAny_bind (wpAny_pure ?_)))
  simp only [beq_self_eq_true]
  rw [if_neg (by rw [hoS]; exact Bool.false_ne_true)]
  refine wpAny_bind (wpAny_dictEntries hod hdd ?_)
  split
  · refine wpAny_bind (wpAny_dictEntries hoo hdo' ?_)
    refine wpAny_bind ?_
    rw [← Array.forIn_toList]
    refine wpAny_forIn_list _ (fun rest _ s' => s' = s ∧ ∀ e ∈ rest, ∃ k, knd.is k e.key = true) _ ?_ ?_ _ _ ⟨rfl, fun e he => let ⟨k, h, _⟩ := hko e (by simpa using he); ⟨k, h⟩⟩
    · rintro e rest b s' ⟨rfl, hr⟩
      obtain ⟨k, hk⟩ := hr e (.head _)
      have := noref hk
      split
      · rename_i q hq
        exact absurd hq (this q)
      · exact wpAny_pure ⟨rfl, fun x hx => hr x (.tail _ hx)⟩
    · rintro b s' ⟨rfl, _⟩
      exact loop
  · exact loop
end
end FL
namespace FL
open PySem PySem.Spec L2
def tStarD (to tk tv : TE) : TE := fun σ H Q => ∀ p, H p = none → to σ (upd H p (.dK [])) fun x H1 => ∃ a kvs, x = .ref a ∧ a ≠ p ∧ Rd H1 a (.dK kvs) ∧ kvs.length < 1000 ∧ H1 p = some (.dK []) ∧
  ∀ q, upd H1 p (.dK (mergeK [] kvs)) q = none → tPairs [(tk, tv)] σ (upd (upd H1 p (.dK (mergeK [] kvs))) q (.dK [])) fun ps H4 => ∃ key z, ps = [(kV key, z)] ∧ H4 q = some (.dK []) ∧ H4 p = some (.dK (mergeK [] kvs)) ∧
    Q (.ref p) (upd (upd H4 q (.dK [(key, z)])) p (.dK (putK (mergeK [] kvs) key z)))
section
variable {X : Cx} {o kx vx : Expr} {pos : Pos} {to tk tv : TE}
theorem pe_starD (ho : PE X o to) (hk : PE X kx tk) (hv : PE X vx tv) : PE X (.Dict [none, some kx] [o, vx] pos) (tStarD to tk tv) := by
  refine ⟨fun pins s σ H Q I h => ?_⟩
  rw [arm_eval_Dict]
  refine wpAny_bind (wpAny_standAt ?_)
  unfold dictDisplay
  simp only [evalEachOpt, evalEach, List.zip_cons_cons, List.map_cons, List.map_nil, List.zip_nil_right, List.forIn_cons, List.forIn_nil]
  refine wpAny_bind ?_
  refine wpAny_bind ?_
  show wpAny _ _ (Bind.bind (if ([] : List (Sem Value × Sem Value)).isEmpty = true then pure none else _) _) _ _ _
  refine wpAny_bind ?_
  refine wpAny_ite ?_
  rw [if_pos (by rfl)]
  refine wpAny_pure ?_
  dsimp only
  refine wpAny_bind (wpAny_alloc ?_)
  have hn := I.hok.fresh (Nat.le_refl s.heap.objs.size)
  have I1 := I.laid (a := s.heap.objs.size) (o := .dK []) (h' := s.heap.push { cls := .type "dict", data := .dict #[] }) (t' := s.toks) (fun _ _ q => Heap.get?_push_of_some _ q) (Nat.le_refl _) (dk_empty s.heap I.big)
  have h1 := h _ hn
  generalize hp : s.heap.objs.size = p at hn I1 h1 ⊢
  refine wpAny_bind (wpAny_holding (wpAny_bind (thn (ho.run pins _ σ _ _ I1 h1) fun u s1 ⟨x, H1, I2, rx, a, kvs, ex, hap, hrd, hlen, hpp, hq⟩ => wpAny_bind (wpAny_standAt (wpAny_pure ?_)))))
  subst ex
  obtain rfl : u = Value.ref a := rx
  obtain ⟨za, hda, vs, rel, dd⟩ := dk_rd I2.hok hrd
  obtain ⟨zp, hdp, vs0, r0, ddp⟩ := dk_of I2.hok hpp
  cases r0
  have hvl : vs.length < 1000 := by rw [← rel.length]; exact hlen
  have hml : (mergeK [] kvs).length ≤ sizeLine := by
    have h2 := length_mergeK kvs []
    rw [List.length_nil] at h2
    rw [sizeLine_eq]; omega
  refine wpAny_bind (wpAny_onRaise (wpAny_tryCatch (wpAny_onRaise (wpAny_holding (merge_run (Ne.symm hap) hda ddp dd (fun h' dm hs => ?_) (by rw [List.length_nil, sizeLine_eq]; omega))))))
  have he : ∃ q, h'.get? p = some q := let ⟨q, _, _, hq', _⟩ := dm; ⟨q, hq'⟩
  have I3 := d_write (t' := s1.toks) I2 (by rw [hpp]; exact True.intro) hs he (dk_new hml hdp (rel.merge .nil) dm)
  refine wpAny_pure ?_
  dsimp only
  refine wpAny_bind ?_
  show wpAny _ _ (if (_ == 17) = true then _ else _) _ _ _
  refine wpAny_ite ?_
  rw [if_neg (by simp)]
  refine wpAny_pure ?_
  dsimp only
  refine wpAny_pure ?_
  dsimp only
  refine wpAny_bind ?_
  refine wpAny_ite ?_
  rw [if_neg (by simp)]
  refine wpAny_bind (wpAny_holding ?_)
  generalize hs2 : ({ s1 with heap := h', toks := s1.toks } : Shared) = s2 at I3
  have hn2 := I3.hok.fresh (Nat.le_refl s2.heap.objs.size)
  have I4 := I3.laid (a := s2.heap.objs.size) (o := .dK []) (h' := s2.heap.push { cls := .type "dict", data := .dict #[] }) (t' := s2.toks) (fun _ _ q => Heap.get?_push_of_some _ q) (Nat.le_refl _) (dk_empty s2.heap I3.big)
  have h4 := hq _ hn2
  refine wpAny_subDict (knd := mixKind X.prog X.w) (by simp) (thn ((pps_cons (pos := pos) hk hv pps_nil).run pins _ σ _ _ I4 h4) fun ws s3 ⟨ps, H4, I5, rw', key, z, eps, hq4, hp4, hQ⟩ => ?_)
  subst eps
  generalize hqq : s2.heap.objs.size = q at *
  obtain ⟨rs, c, rk⟩ := carries_of (P := X.prog) (w := X.w) (kvs := [(key, z)]) rw'
  obtain ⟨zq, hdq, vs1, r1, ddq⟩ := dk_of I5.hok hq4
  cases r1
  have hpq : p ≠ q := fun e => by
    subst e
    rw [upd_same] at hn2
    cases hn2
  refine ⟨rs, c, ddq, fun h2 dm2 hs3 => ?_⟩
  have he2 : ∃ o, h2.get? q = some o := let ⟨o, _, _, ho', _⟩ := dm2; ⟨o, ho'⟩
  have I6 := d_write (t' := s3.toks + ws.length) (ob := .dK [(key, z)]) I5 (by rw [hq4]; exact True.intro) hs3 he2 (dk_new (by simp [sizeLine_eq]) hdq rk (by
    have e := KV.length rk
    have : merged [] rs = rs := by
      cases rk with
      | cons a b => cases b; rfl
    rw [this] at dm2
    exact dm2))
  have hp6 : upd H4 q (.dK [(key, z)]) p = some (.dK (mergeK [] kvs)) := by rw [upd_ne hpq]; exact hp4
  have hq6 : upd H4 q (.dK [(key, z)]) q = some (.dK [(key, z)]) := upd_same
  obtain ⟨zp6, hdp6, vs6, r6, ddp6⟩ := dk_of I6.hok hp6
  obtain ⟨zq6, hdq6, vq6, rq6, ddq6⟩ := dk_of I6.hok hq6
  have hv6 : vq6.length = 1 := by rw [← rq6.length]; rfl
  have hm6 : vs6.length < 1000 := by
    rw [← r6.length]
    have h2 := length_mergeK kvs []
    rw [List.length_nil] at h2
    omega
  have hpl : (putK (mergeK [] kvs) key z).length ≤ sizeLine := by
    have h2 := length_mergeK kvs []
    have h3 := length_putK (mergeK [] kvs) key z
    rw [List.length_nil] at h2
    rw [sizeLine_eq]; omega
  refine wpAny_bind (wpAny_onRaise (wpAny_holding (merge_run (s := { s3 with heap := h2, toks := s3.toks + ws.length }) hpq hdq6 ddp6 ddq6 (fun h3 dm3 hs4 => ?_) (by rw [hv6, sizeLine_eq]; omega))))
  have he3 : ∃ o, h3.get? p = some o := let ⟨o, _, _, ho', _⟩ := dm3; ⟨o, ho'⟩
  have I7 := d_write (t' := s3.toks + ws.length) (ob := .dK (putK (mergeK [] kvs) key z)) I6 (by rw [hp6]; exact True.intro) hs4 he3 (dk_new hpl hdp6 (rq6.merge r6) dm3)
  refine wpAny_pure ?_
  dsimp only
  exact wpAny_pure ⟨.ref p, _, I7, rfl, hQ⟩
end
end FL
namespace FL
open PySem PySem.Spec L2 PyProof.Rows
/-! ### {**d, k: v} -/
def dmrgK : List Str → List Str → List Str
  | [], ka => ka
  | g :: gs, ka => dmrgK gs (dputK ka g)
def dmrgX {α : Type} : List Str → List α → List Str → List α → List α
  | g :: gs, x :: xs, ka, xa => dmrgX gs xs (dputK ka g) (dputX g x ka xa)
  | _, _, _, xa => xa
theorem mergeK_kz : ∀ (ks : List Str) (vs : List V) (ka : List Str) (va : List V), ks.length = vs.length → ka.length = va.length → mergeK (kz ka va) (kz ks vs) = kz (dmrgK ks ka) (dmrgX ks vs ka va) ∧ (dmrgK ks ka).length = (dmrgX ks vs ka va).length
  | [], [], ka, va, _, h => ⟨rfl, h⟩
  | [], _ :: _, _, _, h, _ => by simp at h
  | _ :: _, [], _, _, h, _ => by simp at h
  | g :: gs, v :: vs, ka, va, h1, h2 => by
    have e : mergeK (kz ka va) (kz (g :: gs) (v :: vs)) = mergeK (putK (kz ka va) (.inr g) v) (kz gs vs) := rfl
    rw [e, putK_kz g v h2]
    exact mergeK_kz gs vs _ _ (by simpa using h1) (dput_len g v h2)
theorem RpAll.dmrgX {K : PySem.W.Frag} {φ : Nat → Option Addr} {H : Hp} : ∀ (ks : List Str) {xs xa : List D} {vs va : List V} {ka : List Str}, RpAll K φ H xs vs → RpAll K φ H xa va → RpAll K φ H (FL.dmrgX ks xs ka xa) (FL.dmrgX ks vs ka va)
  | [], _, _, _, _, _, _, r => by unfold FL.dmrgX; exact r
  | _ :: _, _, _, _, _, _, .nil, r => by unfold FL.dmrgX; exact r
  | g :: gs, _, _, _, _, _, .cons q t, r => by unfold FL.dmrgX; exact RpAll.dmrgX gs t (r.dputX q)
section
variable {X : Cx} {O : List Nat} {o kx vx : Expr} {F Kf E : Env → Option D} {pos : Pos}
def eStarD (F Kf E : Env → Option D) : Env → Option D := fun ρ => match F ρ with
  | some (.dct ks xs) => (match Kf ρ with
    | some (.str k) => (match E ρ with | some y => if ks.length < 1000 then some (.dct (dputK (dmrgK ks []) k) (dputX k y (dmrgK ks []) (dmrgX ks xs [] []))) else none | none => none)
    | _ => none)
  | _ => none
theorem eStarD_some {ρ : Env} {d : D} (h : eStarD F Kf E ρ = some d) : ∃ ks xs k y, F ρ = some (.dct ks xs) ∧ Kf ρ = some (.str k) ∧ E ρ = some y ∧ ks.length < 1000 ∧ d = .dct (dputK (dmrgK ks []) k) (dputX k y (dmrgK ks []) (dmrgX ks xs [] [])) := by
  unfold eStarD at h
  split at h
  · rename_i ks xs h1
    split at h
    · rename_i k h2
      split at h
      · rename_i y h3
        split at h
        · rename_i h4
          cases h
          exact ⟨ks, xs, k, y, h1, h2, h3, h4, rfl⟩
        · cases h
      · cases h
    · cases h
  · cases h
theorem fd_starD (ho : FE X O o F) (hk : FE X O kx Kf) (hv : FE X O vx E) : FD X O (.Dict [none, some kx] [o, vx] pos) (eStarD F Kf E) := fun φ Hf0 H0 ρ σ Hf H d Q S hF k => by
  obtain ⟨ks, xs, z, y, h1, h2, h3, h4, rfl⟩ := eStarD_some hF
  refine toE (pe_starD peW peW peW) fun p hp => ?_
  have gp : Gr Hf H Hf (upd H p (.dK [])) := ⟨Same.refl _, same_upd hp, S.sub.trans (same_upd hp), fun _ _ _ w => w⟩
  have fp : Hf p = none := S.sub.free hp
  refine ho φ Hf0 H0 ρ σ Hf _ _ _ (S.gr gp) h1 fun v1 Hf1 H1 g1 r1 => ?_
  cases r1 with
  | @dct a _ vs _ q l r =>
    have fp1 : Hf1 p = none := g1.n _ _ upd_same fp
    have hp1 : H1 p = some (.dK []) := g1.h _ _ upd_same
    have hap : a ≠ p := by
      rintro rfl
      rcases q with q | ⟨o, q⟩ <;> rw [fp1] at q <;> cases q
    obtain ⟨m1, m2⟩ := mergeK_kz ks vs [] [] l rfl
    refine ⟨a, kz ks vs, rfl, hap, rd_mono g1.s q, by rw [List.length_zip, List.length_map]; omega, hp1, fun q2 hq2 => ?_⟩
    have m1' : mergeK [] (kz ks vs) = kz (dmrgK ks []) (dmrgX ks vs [] []) := m1
    rw [m1'] at hq2 ⊢
    have hpq : q2 ≠ p := by
      rintro rfl
      rw [upd_same] at hq2; cases hq2
    have hq1 : H1 q2 = none := by rw [upd_ne hpq] at hq2; exact hq2
    have g01 := gp.trans g1
    have hne : ∀ b u, H b = some u → b ≠ p := fun b u e z => by rw [z, hp] at e; cases e
    have g2 : Gr Hf H Hf1 (upd H1 p (.dK (kz (dmrgK ks []) (dmrgX ks vs [] [])))) := by
      refine ⟨g01.f, fun b u e => ?_, fun b u e => ?_, fun b u e1 e2 => g01.n b u e1 e2⟩
      · rw [upd_ne (hne b u e)]; exact g01.h _ _ e
      · rw [upd_ne (fun w => by rw [w, fp1] at e; cases e)]; exact g1.s _ _ e
    have g3 : Gr Hf H Hf1 (upd (upd H1 p (.dK (kz (dmrgK ks []) (dmrgX ks vs [] [])))) q2 (.dK [])) := g2.trans ⟨Same.refl _, same_upd hq2, g2.s.trans (same_upd hq2), fun _ _ _ w => w⟩
    refine hk φ Hf0 H0 ρ σ Hf1 _ _ _ (S.gr g3) h2 fun v2 Hf2 H2 g4 r2 => ?_
    refine hv φ Hf0 H0 ρ σ Hf2 _ _ _ ((S.gr g3).gr g4) h3 fun v3 Hf3 H3 g5 r3 => ?_
    cases r2
    have g45 := g4.trans g5
    have hq3 : H3 q2 = some (.dK []) := g45.h _ _ upd_same
    have hp3 : H3 p = some (.dK (kz (dmrgK ks []) (dmrgX ks vs [] []))) := g45.h _ _ (by rw [upd_ne (Ne.symm hpq), upd_same])
    have fp3 : Hf3 p = none := g45.n _ _ (by rw [upd_ne (Ne.symm hpq), upd_same]) fp1
    have fq1 : Hf1 q2 = none := g1.s.free hq1
    have fq3 : Hf3 q2 = none := g45.n _ _ upd_same fq1
    refine ⟨.inr z, v3, rfl, hq3, hp3, ?_⟩
    rw [putK_kz z v3 m2]
    have hqH : H q2 = none := by
      cases e : H q2 with
      | none => rfl
      | some u => rw [g01.h _ _ e] at hq1; cases hq1
    have gg := g3.trans g45
    refine k p _ _ (dputX z v3 (dmrgK ks []) (dmrgX ks vs [] [])) Hf3 _ rfl ⟨gg.f, fun b u e => ?_, fun b u e => ?_, gg.n⟩ hp fp3 upd_same (dput_len z v3 m2) ((((RpAll.dmrgX ks r .nil).mono g45.f)).dputX r3)
    · rw [upd_ne (hne b u e), upd_ne (fun w => by rw [w, hqH] at e; cases e)]; exact gg.h _ _ e
    · rw [upd_ne (fun w => by rw [w, fp3] at e; cases e), upd_ne (fun w => by rw [w, fq3] at e; cases e)]; exact gg.s _ _ e
end
/-! ### a walk over a dict's keys -/
section
variable {K : PySem.W.Frag} {φ : Nat → Option Addr} {H H' : Hp} {a : Addr} {kvs : List (Key × V)}
theorem rdK {b : Addr} {o : HO} (h : Rd H a (.dK kvs)) (e : H b = some o) (n : ∀ k, o ≠ .dK k) (n2 : ∀ q k, o ≠ .frz q (.dK k)) : b ≠ a := by
  rintro rfl
  rcases h with h | ⟨q, h⟩
  · rw [h] at e; cases e; exact n _ rfl
  · rw [h] at e; cases e; exact n2 _ _ rfl
theorem SqT_swap (h1 : Rd H a (.dK kvs)) (k : ∀ b o, b ≠ a → H b = some o → H' b = some o) {b : Addr} {xs : List V} (h : SqT K H b xs) : SqT K H' b xs := by
  rcases h with (h | ⟨o, h⟩) | h
  · exact .inl (.inl (k _ _ (rdK h1 h (fun _ z => nomatch z) fun _ _ z => nomatch z) h))
  · exact .inl (.inr ⟨o, k _ _ (rdK h1 h (fun _ z => nomatch z) fun _ _ z => nomatch z) h⟩)
  · exact .inr h
theorem SqL_swap (h1 : Rd H a (.dK kvs)) (k : ∀ b o, b ≠ a → H b = some o → H' b = some o) {b : Addr} {xs : List V} (h : SqL K H b xs) : SqL K H' b xs := by
  rcases h with (h | ⟨o, h⟩) | h
  · exact .inl (.inl (k _ _ (rdK h1 h (fun _ z => nomatch z) fun _ _ z => nomatch z) h))
  · exact .inl (.inr ⟨o, k _ _ (rdK h1 h (fun _ z => nomatch z) fun _ _ z => nomatch z) h⟩)
  · exact .inr h
theorem rd_swap (h1 : Rd H a (.dK kvs)) (h2 : Rd H' a (.dK kvs)) (k : ∀ b o, b ≠ a → H b = some o → H' b = some o) {b : Addr} {l : List (Key × V)} (h : Rd H b (.dK l)) : Rd H' b (.dK l) := by
  by_cases e : b = a
  · subst e
    have : l = kvs := by
      rcases h1 with h1 | ⟨q, h1⟩ <;> rcases h with h | ⟨q', h⟩ <;> rw [h1] at h <;> cases h <;> rfl
    rw [this]; exact h2
  · exact h.imp (k _ _ e) fun ⟨o, h⟩ => ⟨o, k _ _ e h⟩
mutual
theorem Rp.swap (h1 : Rd H a (.dK kvs)) (h2 : Rd H' a (.dK kvs)) (k : ∀ b o, b ≠ a → H b = some o → H' b = some o) : ∀ {d : D} {v : V}, Rp K φ H d v → Rp K φ H' d v
  | _, _, .non => .non
  | _, _, .bl b => .bl b
  | _, _, .int i => .int i
  | _, _, .str x => .str x
  | _, _, .tup s r => .tup (SqT_swap h1 k s) (RpAll.swap h1 h2 k r)
  | _, _, .lst s r => .lst (k _ _ (rdK h1 s (fun _ z => nomatch z) fun _ _ z => nomatch z) s) (RpAll.swap h1 h2 k r)
  | _, _, .klst s r => .klst (SqL_swap h1 k s) (RpAll.swap h1 h2 k r)
  | _, _, .obj h => .obj h
  | _, _, .ins s l r => .ins (k _ _ (rdK h1 s (fun _ z => nomatch z) fun _ _ z => nomatch z) s) l (RpAll.swap h1 h2 k r)
  | _, _, .dct s l r => .dct (rd_swap h1 h2 k s) l (RpAll.swap h1 h2 k r)
theorem RpAll.swap (h1 : Rd H a (.dK kvs)) (h2 : Rd H' a (.dK kvs)) (k : ∀ b o, b ≠ a → H b = some o → H' b = some o) : ∀ {ds : List D} {vs : List V}, RpAll K φ H ds vs → RpAll K φ H' ds vs
  | _, _, .nil => .nil
  | _, _, .cons r t => .cons (r.swap h1 h2 k) (RpAll.swap h1 h2 k t)
end
theorem itB_keys {Hf : Hp} {od : Obj} {ks : List Str} {vs : List V} (hl : ks.length = vs.length) (h : H a = some (.frz od (.dK (kz ks vs)))) : ItB K φ Hf H (ks.map D.str) (Itk a od (kz ks vs)) := fun i Hf1 H1 g => by
  have hlen : (kz ks vs).length = ks.length := by rw [List.length_zip, List.length_map]; omega
  refine ⟨fun hi => ⟨g.h _ _ h, by rw [hlen]; simpa using hi⟩, fun d hd => ⟨⟨g.h _ _ h, ?_⟩, ?_⟩⟩
  · rw [hlen]
    have := (List.getElem?_eq_some_iff.mp hd).1
    simpa using this
  · rintro x H2 ⟨rfl, k, v, e, rfl⟩
    refine ⟨Hf1, .refl g.s, ?_⟩
    rw [List.getElem?_map] at hd
    obtain ⟨z, hz, rfl⟩ := Option.map_eq_some_iff.mp hd
    have e2 : (kz ks vs)[i]? = some (.inr z, v) := by
      rw [List.getElem?_zip_eq_some] at e ⊢
      refine ⟨?_, e.2⟩
      rw [List.getElem?_map, hz]; rfl
    rw [e] at e2
    cases e2
    exact .str z
end
section
variable {X : Cx} {O O2 : List Nat} {tg kx elt : Expr} {scope : Scope} {own : List (Str × Nat)} {pos xpos : Pos}
def eDcK (i0 : Nat) (vs : List Nat) (g : D → Env → Option Env) (T : Env → Option Bool) (Kf E : Env → Option D) : Env → Option D := fun ρ => match ρ[i0]? with
  | some (some (.dct ks0 _)) => (match dcL g T Kf E (wipeE ρ vs) (ks0.map D.str) [] [] with | some (ks, xs) => some (.dct ks xs) | none => none)
  | _ => none
/-- {k: v for t in d if c} -/
theorem fd_dcK {c : Expr} {x : Str} {i0 : Nat} {T : Env → Option Bool} {g : D → Env → Option Env} {Kf E : Env → Option D} {tgs : List Nat} (hx : X.N[i0]? = some x) (hvis : Vis X.env.scope x) (hO : O.contains i0 = false) (hc : X.calm = true) (hN : X.N.Nodup) (ok : BlkOk X.N X.env.scope scope own)
    (hg : ∀ s H C cl fp, FG (X.blk s H scope (compEnvC scope cl C X.env) fp) O O2 tgs tg g) (ht : ∀ s H C cl fp, FT (X.blk s H scope (compEnvC scope cl C X.env) fp) O2 c T) (hk : ∀ s H C cl fp, FE (X.blk s H scope (compEnvC scope cl C X.env) fp) O2 kx Kf) (he : ∀ s H C cl fp, FE (X.blk s H scope (compEnvC scope cl C X.env) fp) O2 elt E)
    (htg : (tgs.all fun i => (own.map (·.2)).contains i) = true) (hs : ∀ y, foldedSetIterable (.Name x xpos) X.env y = pure y := by intro _; rfl) (hd : (x == ("__debug__" : Str)) = false := by decide +kernel) (hcd : (x == ("__classdict__" : Str)) = false := by decide +kernel) :
    FD X O (.DictComp kx elt [⟨tg, .Name x xpos, [c], 0⟩] scope pos) (eDcK i0 (own.map (·.2)) g T Kf E) := by
  intro φ Hf0 H0 ρ σ Hf H d Q S hF k
  unfold eDcK at hF
  split at hF
  · rename_i ks0 xs0 h0
    split at hF
    · rename_i kso xso hys
      have hno : i0 ∉ O := fun z => by
        have := List.contains_iff_mem.mpr z
        rw [hO] at this; cases this
      obtain ⟨v, e0, r0⟩ := S.val i0 _ h0 hno
      have pe := pe_dc (pos := pos) (wi := wI X tg (.Name x xpos)) (g := uG X scope tg) (tt := uT X scope c) (tk := uE X scope kx) (tv := uE X scope elt) hc hN piW ok (fun s H C cl fp => ⟨fun pins s' σ H' v u Q I r h => (h s H C cl fp).h pins s' u I r⟩) (fun s H C cl fp => pts_one ⟨fun pins s' σ H' Q I h => (h s H C cl fp).h pins s' I⟩) (fun s H C cl fp => ⟨fun pins s' σ H' Q I h => (h s H C cl fp).h pins s' I⟩) (fun s H C cl fp => ⟨fun pins s' σ H' Q I h => (h s H C cl fp).h pins s' I⟩) hs
      cases r0 with
      | @dct a _ vs0 _ q l r =>
        have go : ∀ {Hf1 H1 : Hp} {Hfa H0a : Hp} (S1 : SR X.K φ Hfa H0a O ρ σ Hf1 H1) (od : Obj), H1 a = some (.frz od (.dK (kz ks0 vs0))) → ∀ Q' : VK, (∀ a' ks xs us Hf' H', d = .dct ks xs → Gr Hf1 H1 Hf' H' → H1 a' = none → Hf' a' = none → H' a' = some (.dK (kz ks us)) → ks.length = us.length → RpAll X.K φ Hf' xs us → Q' (.ref a') H') →
            tDc (wI X tg (.Name x xpos)) (uG X scope tg) (uT X scope c) (uE X scope kx) (uE X scope elt) (own.map (·.2)) σ H1 Q' := fun {Hf1 H1 Hfa H0a} S1 od hfz Q' k' => by
          refine dc_go0 (O := O) (O2 := O2) (ds := ks0.map D.str) (fun _ _ _ h => h) hg (fun i hi => by simpa using (List.all_eq_true.mp htg) i hi) (fun φ Hf0 H0 ρ σ Hf H b Q S h k s0 h0 C0 cl0 fp0 => ht s0 h0 C0 cl0 fp0 φ Hf0 H0 ρ σ Hf H b Q S h k) hk he S1 hys (Option.some.inj hF).symm (fun R h => ?_) k'
          refine toI (pi_keys (pe_var hx hvis hd hcd)) ?_
          exact ⟨_, e0, a, od, rfl, .inl ⟨_, hfz, h _ Hf1 H1 (.refl S1.sub) (itB_keys l hfz)⟩⟩
        rcases q with q | ⟨od, q⟩
        · refine toE (pe_lock pe) ?_
          have hH : H a = some (.dK (kz ks0 vs0)) := S.sub _ _ q
          refine ⟨a, .dK (kz ks0 vs0), hH, True.intro, fun od => ?_⟩
          have rdl : Rd (upd Hf a (.frz od (.dK (kz ks0 vs0)))) a (.dK (kz ks0 vs0)) := .inr ⟨od, upd_same⟩
          have up : ∀ {A : Hp} b o, b ≠ a → A b = some o → upd A a (.frz od (.dK (kz ks0 vs0))) b = some o := fun b o n e => by rw [upd_ne n]; exact e
          have S1 : SR X.K φ (fun b => if b = a then none else Hf0 b) (fun b => if b = a then none else H0 b) O ρ σ (upd Hf a (.frz od (.dK (kz ks0 vs0)))) (upd H a (.frz od (.dK (kz ks0 vs0)))) := by
            refine ⟨S.len, fun b o e => ?_, fun b o e => ?_, fun b o e => ?_, fun b o e1 e2 => ?_, fun i d' e n => ?_, fun i d' e m => ?_, S.ne⟩
            · by_cases hb : b = a
              · subst hb; rw [upd_same] at e ⊢; exact e
              · rw [upd_ne hb] at e ⊢; exact S.sub _ _ e
            · by_cases hb : b = a
              · rw [if_pos hb] at e; cases e
              · rw [if_neg hb] at e; rw [upd_ne hb]; exact S.gf _ _ e
            · by_cases hb : b = a
              · rw [if_pos hb] at e; cases e
              · rw [if_neg hb] at e; rw [upd_ne hb]; exact S.gh _ _ e
            · by_cases hb : b = a
              · rw [if_pos hb] at e1; cases e1
              · rw [if_neg hb] at e1 e2; rw [upd_ne hb]; exact S.gn _ _ e1 e2
            · obtain ⟨v', w1, w2⟩ := S.val i d' e n
              exact ⟨v', w1, w2.swap (.inl q) rdl up⟩
            · obtain ⟨b, ys, us, w1, w2, w3, w4, w5, w6⟩ := S.own i d' e m
              have hb : b ≠ a := by rintro rfl; rw [q] at w4; cases w4
              exact ⟨b, ys, us, w1, w2, by rw [upd_ne hb]; exact w3, by rw [upd_ne hb]; exact w4, by rw [if_neg hb]; exact w5, RpAll.swap (.inl q) rdl up w6⟩
          refine go S1 od upd_same _ fun a' ks xs us Hf' H' e1 g1 n1 n2 n3 n4 r3 => ?_
          have fz : H' a = some (.frz od (.dK (kz ks0 vs0))) := g1.h _ _ upd_same
          have fzf : Hf' a = some (.frz od (.dK (kz ks0 vs0))) := g1.f _ _ upd_same
          have hna : a' ≠ a := by rintro rfl; rw [fz] at n3; cases n3
          refine ⟨fz, k a' ks xs us (upd Hf' a (.dK (kz ks0 vs0))) (upd H' a (.dK (kz ks0 vs0))) e1 ⟨fun b o e => ?_, fun b o e => ?_, fun b o e => ?_, fun b o e1 e2 => ?_⟩ (by rw [upd_ne hna] at n1; exact n1) (by rw [upd_ne hna]; exact n2) (by rw [upd_ne hna]; exact n3) n4 (RpAll.swap (.inr ⟨od, fzf⟩) (.inl upd_same) (fun b o n e => by rw [upd_ne n]; exact e) r3)⟩
          · by_cases hb : b = a
            · subst hb; rw [q] at e; cases e; exact upd_same
            · rw [upd_ne hb]; exact g1.f _ _ (by rw [upd_ne hb]; exact e)
          · by_cases hb : b = a
            · subst hb; rw [hH] at e; cases e; exact upd_same
            · rw [upd_ne hb]; exact g1.h _ _ (by rw [upd_ne hb]; exact e)
          · by_cases hb : b = a
            · subst hb; rw [upd_same] at e ⊢; exact e
            · rw [upd_ne hb] at e ⊢; exact g1.s _ _ e
          · have hb : b ≠ a := by rintro rfl; rw [q] at e2; cases e2
            rw [upd_ne hb]
            exact g1.n b o (by rw [upd_ne hb]; exact e1) (by rw [upd_ne hb]; exact e2)
        · exact toE pe (go S od (S.sub _ _ q) Q k)
    · cases hF
  · cases hF
end
/-! ### tuple(d), list(d) -/
theorem call_tupD {X : Cx} (hh : X.A.handled = none) : CallR X (.type "tuple") (fun xs H Q => ∃ (a : Addr) (kvs : List (Key × V)), xs = [.ref a] ∧ Rd H a (.dK kvs) ∧ ∀ p, H p = none → Q (.ref p) (upd H p (.tup (kvs.map fun kv => kV kv.1)))) := by
  intro pins s σ H xs us Q I r h
  obtain ⟨a, kvs, rfl, hD, q⟩ := h
  obtain ⟨u, rfl, ru⟩ := vals1 r
  cases ru
  obtain ⟨z, lo, vs, rel, o, es, ep, ho, hc, hd, hk, hp, hn⟩ := dk_rd I.hok hD
  have hlen : es.size = kvs.length := by
    rw [rel.length, ← hp.length]; simp
  refine dict_tuple hh lo ⟨o, ho, hc, hd⟩ (by rw [hlen]; exact z) fun h' tk acc hk' hlt hi => ?_
  have hv : Vals (kvs.map fun kv => kV kv.1) acc.toList := by
    have e : acc.toList.length = kvs.length := by rw [Array.length_toList, hi.1, hlen]
    refine vals_of_at (by rw [List.length_map, e]) fun j x u e1 e2 => ?_
    rw [List.getElem?_map] at e1
    obtain ⟨kv, ekv, rfl⟩ := Option.map_eq_some_iff.mp e1
    obtain ⟨hje, e3⟩ := hi.2 j u (by rw [← Array.getElem?_toList]; exact e2)
    subst e3
    have e4 : (kvs.map (·.1))[j]? = some kv.1 := by rw [List.getElem?_map, ekv]; rfl
    rw [rel.keys, List.getElem?_map] at e4
    obtain ⟨kw, ekw, e5⟩ := Option.map_eq_some_iff.mp e4
    obtain ⟨k1, v1⟩ := kw
    obtain ⟨hkey, _⟩ := hp.get? (e := es[j]) (by simp [hje]) ekw
    have e5' : k1 = kv.1 := e5
    rw [← e5']
    exact keyIs_rel hkey
  have hp' : s.heap.objs.size ≤ h'.objs.size := Nat.le_of_lt hlt
  refine ⟨.ref h'.objs.size, upd H h'.objs.size (.tup (kvs.map fun kv => kV kv.1)), ?_, rfl, q _ (I.hok.fresh hp')⟩
  refine I.laid (t' := tk) (fun b ob w => Heap.get?_push_of_some _ (hk' b ob w)) hp' ⟨by rw [List.length_map]; exact z, acc.toList, hv, ?_⟩
  exact ⟨_, Heap.get?_push_size _ rfl, rfl, 0, by simp⟩
theorem kz_keys : ∀ (ks : List Str) (vs : List V), ks.length = vs.length → (kz ks vs).map (fun kv => kV kv.1) = ks.map V.str
  | [], [], _ => rfl
  | [], _ :: _, h => by simp at h
  | _ :: _, [], h => by simp at h
  | k :: ks, v :: vs, h => by
    show V.str k :: (kz ks vs).map _ = V.str k :: ks.map V.str
    rw [kz_keys ks vs (by simpa using h)]
theorem rp_strsK {K : PySem.W.Frag} {φ : Nat → Option Addr} {H : Hp} : ∀ ks : List Str, RpAll K φ H (ks.map D.str) (ks.map V.str)
  | [] => .nil
  | k :: ks => .cons (.str k) (rp_strsK ks)
section
variable {X : Cx} {O : List Nat} {e : Expr} {F : Env → Option D} {p pos : Pos} {nm : Str}
def eTupD (F : Env → Option D) : Env → Option D := fun ρ => match F ρ with | some (.dct ks _) => some (.tup (ks.map D.str)) | _ => none
def eLstD (F : Env → Option D) : Env → Option D := fun ρ => match F ρ with | some (.dct ks _) => some (.lst (ks.map D.str)) | _ => none
theorem fe_tupD (hh : X.A.handled = none) (h : FE X O e F) (hgl : Gl X nm) (hmg : X.mg nm = none) (hbt : bootBuiltins nm = some (.type "tuple")) (hnm : nm ≠ "__name__" := by decide +kernel) (hdb : (nm == ("__debug__" : Str)) = false := by decide +kernel)
    (hst : starEach [e] X.env = (false, eval e X.env) :: starEach [] X.env := by rfl) (hpl : (backTo pos (starEach [] X.env)).any (·.1) = false := by rfl) : FE X O (.Call (.Name nm p) [e] [] pos) (eTupD F) := fun φ Hf0 H0 ρ σ Hf H d Q S hF k => by
  unfold eTupD at hF
  split at hF
  · rename_i ks xs h1
    cases hF
    refine toE (pe_callTy (call_tupD hh) hgl hmg hbt (pa_cons peW pa_nil hst) hnm hdb hst hpl) ?_
    refine h φ Hf0 H0 ρ σ Hf H _ _ S h1 fun v Hf1 H1 g1 r1 => ?_
    cases r1 with
    | @dct a _ vs _ q l r =>
      refine ⟨a, kz ks vs, rfl, rd_mono g1.s q, fun p hp => ?_⟩
      rw [kz_keys ks vs l]
      have g2 : Gr Hf1 H1 (upd Hf1 p (.tup (ks.map V.str))) (upd H1 p (.tup (ks.map V.str))) := .new g1.s hp
      exact k (.ref p) _ _ (g1.trans g2) (.tup (.inl (.inl upd_same)) (rp_strsK ks))
  · cases hF
theorem fn_lstD (hc : X.calm = true) (h : FE X O e F) (hgl : Gl X nm) (hmg : X.mg nm = none) (hbt : bootBuiltins nm = some (.type "list")) (hnm : nm ≠ "__name__" := by decide +kernel) (hdb : (nm == ("__debug__" : Str)) = false := by decide +kernel)
    (hst : starEach [e] X.env = (false, eval e X.env) :: starEach [] X.env := by rfl) (hpl : (backTo pos (starEach [] X.env)).any (·.1) = false := by rfl) : FN X O (.Call (.Name nm p) [e] [] pos) (eLstD F) := fun φ Hf0 H0 ρ σ Hf H d Q S hF k => by
  unfold eLstD at hF
  split at hF
  · rename_i ks xs h1
    cases hF
    refine toE (pe_callTy (call_listD hc) hgl hmg hbt (pa_cons peW pa_nil hst) hnm hdb hst hpl) ?_
    refine h φ Hf0 H0 ρ σ Hf H _ _ S h1 fun v Hf1 H1 g1 r1 => ?_
    cases r1 with
    | @dct a _ vs _ q l r =>
      refine ⟨a, kz ks vs, rfl, rd_mono g1.s q, fun p hp => ?_⟩
      rw [kz_keys ks vs l]
      have hpH : H p = none := by
        cases e : H p with
        | none => rfl
        | some u => rw [g1.h _ _ e] at hp; cases hp
      exact k p _ _ Hf1 _ rfl (g1.trans ⟨Same.refl _, same_upd hp, g1.s.trans (same_upd hp), fun _ _ _ w => w⟩) hpH (g1.s.free hp) upd_same (rp_strsK ks)
  · cases hF
end
end FL
namespace FL
open PySem PySem.Spec L2
/-! ### dicts that change in place -/
def setD (S : List Ob) (i : Nat) (ks : List Str) (xs : List D) : List Ob := match S[i]? with | some o => S.set i ⟨.dic, o.c, ks, xs⟩ | none => S
section
variable {X : Cx} {O : List Nat} {e ix : Expr} {es : List Expr} {pos pos' xpos apos cpos : Pos} {Fi : Env → Option D} {i : Nat} {x : Str}
def mPutD (i : Nat) (Fi : Env → Option D) (M1 : Env → List Ob → Option (D × List Ob)) : Env → List Ob → Option MOut := fun ρ S => match M1 ρ S with
  | some (d, S1) => (match Fi ρ with
    | some (.str k) => (match ρ[i]? with
      | some (some (.obj t)) => (match S1[t]? with
        | some o => if o.k = .dic ∧ o.fs.length < 1000 then some (.nx ρ (setD S1 t (dputK o.fs k) (dputX k d o.fs o.xs))) else none
        | none => none)
      | _ => none)
    | _ => none)
  | none => none
/-- d[k] = e -/
theorem ms_dput {M1 : Env → List Ob → Option (D × List Ob)} (hu : X.A.units + 64 < cLine) (hN : X.N[i]? = some x) (hv : Vis X.env.scope x) (hO : O.contains i = false) (h : ME X O e M1) (hi : FE X O ix Fi) (hd : (x == ("__debug__" : Str)) = false := by decide +kernel) (hcd : (x == ("__classdict__" : Str)) = false := by decide +kernel)
    (hs : swapsWith e (some (.Subscript (.Name x xpos) ix pos')) pos.line X.env = pure false := by rfl) : MS X O O (.Assign [.Subscript (.Name x xpos) ix pos'] e pos) (mPutD i Fi M1) := fun φ B Bf ρ S σ Hf H out Dn M hF P => by
  unfold mPutD at hF
  split at hF
  · rename_i d S1 hd'
    split at hF
    · rename_i k hk
      split at hF
      · rename_i t ht
        split at hF
        · rename_i o h3
          split at hF
          · rename_i hk1
            cases hF
            have hno : i ∉ O := fun z => by
              have := List.contains_iff_mem.mpr z
              rw [hO] at this; cases this
            obtain ⟨v0, e0, r0⟩ := M.sr.val i _ ht hno
            cases r0 with
            | obj hp =>
              refine toS (ps_dput (by omega) (pe_var hN hv hd hcd) peW peW hs) ?_
              refine h φ B Bf ρ S σ Hf H d S1 _ M hd' fun φ1 v Hf1 H1 e1 s1 M1 r1 => ?_
              refine ⟨_, e0, ?_⟩
              refine hi φ1 _ _ ρ σ Hf1 H1 _ _ M1.sr hk fun z Hf2 H2 g2 r2 => ?_
              cases r2
              have M2 := M1.gr g2
              obtain ⟨b, y1, y2, y3⟩ := M2.cl.at_ _ _ h3
              rw [e1 _ _ hp] at y1
              cases y1
              obtain ⟨vs1, y4, y5, y6⟩ := y3.dic hk1.1
              refine ⟨_, _, rfl, DPut.k (k := .inr k) y4 (by rw [List.length_zip, List.length_map, sizeLine_eq]; omega), ?_⟩
              have M3 := M2.setO (o' := ⟨.dic, o.c, dputK o.fs k, dputX k d o.fs o.xs⟩) h3 (e1 _ _ hp) (u := .dK (putK (kz o.fs vs1) (.inr k) v)) ⟨dputX k v o.fs vs1, y6.dputX (r1.mono g2.f), dput_len k v y5, by rw [putK_kz k v y5]⟩
              have e3 : setD S1 t (dputK o.fs k) (dputX k d o.fs o.xs) = S1.set t ⟨.dic, o.c, dputK o.fs k, dputX k d o.fs o.xs⟩ := by unfold setD; rw [h3]
              rw [e3] at P
              exact P φ1 _ Hf2 _ e1 (s1.trans g2.f) M3
          · cases hF
        · cases hF
      · cases hF
    · cases hF
  · cases hF
def mPopD (i : Nat) (Fi : Env → Option D) : Env → List Ob → Option MOut := fun ρ S => match Fi ρ with
  | some (.str k) => (match ρ[i]? with
    | some (some (.obj t)) => (match S[t]? with
      | some o => if o.k = .dic ∧ dhas k o.fs = true then some (.nx ρ (setD S t (ddelK k o.fs) (ddelX k o.fs o.xs))) else none
      | none => none)
    | _ => none)
  | _ => none
/-- d.pop(k) -/
theorem ms_dpop (hN : X.N[i]? = some x) (hv : Vis X.env.scope x) (hO : O.contains i = false) (hi : FE X O ix Fi) (hd : (x == ("__debug__" : Str)) = false := by decide +kernel) (hcd : (x == ("__classdict__" : Str)) = false := by decide +kernel)
    (m : L2.M1 X (.Name x xpos) "pop" apos ix cpos := by exact ⟨rfl, rfl, rfl, rfl⟩) (hs : swapsWith (.Call (.Attribute (.Name x xpos) "pop" apos) [ix] [] cpos) none pos.line X.env = pure false := by rfl) :
    MS X O O (.Expr (.Call (.Attribute (.Name x xpos) "pop" apos) [ix] [] cpos) pos) (mPopD i Fi) := fun φ B Bf ρ S σ Hf H out Dn M hF P => by
  unfold mPopD at hF
  split at hF
  · rename_i k hk
    split at hF
    · rename_i t ht
      split at hF
      · rename_i o h3
        split at hF
        · rename_i hk1
          cases hF
          have hno : i ∉ O := fun z => by
            have := List.contains_iff_mem.mpr z
            rw [hO] at this; cases this
          obtain ⟨v0, e0, r0⟩ := M.sr.val i _ ht hno
          cases r0 with
          | obj hp =>
            obtain ⟨b0, w1, w2, w3⟩ := M.cl.at_ _ _ h3
            rw [hp] at w1
            cases w1
            obtain ⟨us0, w4, w5, w6⟩ := w3.dic hk1.1
            refine toS (ps_expr (pe_dpop1 (pe_var hN hv hd hcd) peW m) hs) ?_
            refine ⟨_, e0, _, rfl, .inl ⟨_, .inl w4⟩, ?_⟩
            refine hi φ _ _ ρ σ Hf H _ _ M.sr hk fun z Hf2 H2 g2 r2 => ?_
            cases r2
            have M2 := M.gr g2
            obtain ⟨b, y1, y2, y3⟩ := M2.cl.at_ _ _ h3
            rw [hp] at y1
            cases y1
            obtain ⟨vs1, y4, y5, y6⟩ := y3.dic hk1.1
            have hv1 : (dget k o.fs vs1).isSome = true := by rw [dget_has k o.fs vs1 y5]; exact hk1.2
            obtain ⟨v, ev⟩ := Option.isSome_iff_exists.mp hv1
            refine ⟨_, .inr k, v, y4, rfl, by rw [valV_kz]; exact ev, ?_⟩
            have M3 := M2.setO (o' := ⟨.dic, o.c, ddelK k o.fs, ddelX k o.fs o.xs⟩) h3 hp (u := .dK (dropK (kz o.fs vs1) (.inr k))) ⟨ddelX k o.fs vs1, RpAll.ddelX o.fs y6, ddel_len k y5, by rw [dropK_kz]⟩
            have e3 : setD S t (ddelK k o.fs) (ddelX k o.fs o.xs) = S.set t ⟨.dic, o.c, ddelK k o.fs, ddelX k o.fs o.xs⟩ := by unfold setD; rw [h3]
            rw [e3] at P
            exact P φ _ Hf2 _ (.refl φ) g2.f M3
        · cases hF
      · cases hF
    · cases hF
  · cases hF
def mMut0 (i : Nat) (f : List D → List D → Option (List D)) : Env → List Ob → Option MOut := fun ρ S => match ρ[i]? with
  | some (some (.obj t)) => (match S[t]? with
    | some o => if o.k = .lst then (match f o.xs [] with | some ys => some (.nx ρ (setL S t ys)) | none => none) else none
    | none => none)
  | _ => none
/-- xs.m() as a statement, xs a list that changes -/
theorem ms_mut0 {name : Str} {bid : String} {r : V → List V → Hp → VK → Prop} {f : List D → List D → Option (List D)} (hN : X.N[i]? = some x) (hv : Vis X.env.scope x) (hO : O.contains i = false)
    (slot : Slot "list" name bid) (hty : typeOf (.builtin bid) = pure (.type "method_descriptor")) (hm : MtR X bid r)
    (hr : ∀ (φ : Nat → Option Addr) (Hf H : Hp) (a : Addr) (xs ys : List D) (vs : List V) (Q : VK), H a = some (.lst vs) → RpAll X.K φ Hf xs vs → f xs [] = some ys → (∀ z ws, RpAll X.K φ Hf ys ws → Q z (upd H a (.lst ws))) → r (.ref a) [] H Q)
    (hd : (x == ("__debug__" : Str)) = false := by decide +kernel) (hcd : (x == ("__classdict__" : Str)) = false := by decide +kernel)
    (hbase : attributeBase (.Name x xpos) name X.env (eval (.Name x xpos) X.env) = eval (.Name x xpos) X.env := by rfl)
    (hsx : swapsWith (.Call (.Attribute (.Name x xpos) name apos) [] [] cpos) none pos.line X.env = pure false := by rfl) (hline : (apos.endLine == cpos.line) = true := by rfl) :
    MS X O O (.Expr (.Call (.Attribute (.Name x xpos) name apos) [] [] cpos) pos) (mMut0 i f) := fun φ B Bf ρ S σ Hf H out Dn M hF P => by
  unfold mMut0 at hF
  split at hF
  · rename_i t ht
    split at hF
    · rename_i o h1
      split at hF
      · rename_i hk
        split at hF
        · rename_i ys h4
          cases hF
          have hno : i ∉ O := fun z => by
            have := List.contains_iff_mem.mpr z
            rw [hO] at this; cases this
          obtain ⟨v, e0, r0⟩ := M.sr.val i _ ht hno
          cases r0 with
          | obj hp =>
            obtain ⟨b0, w1, w2, w3⟩ := M.cl.at_ _ _ h1
            rw [hp] at w1
            cases w1
            obtain ⟨vs0, w4, w5⟩ := w3.lst hk
            refine toS (ps_expr (pe_bm0 PySem.F.plainAttrs_list slot hty hm (pe_var hN hv hd hcd) hbase hline) hsx) ?_
            refine ⟨_, e0, .inl ⟨rfl, vs0, .inl (.inl w4)⟩, ?_⟩
            exact hr φ Hf H _ o.xs ys vs0 _ w4 w5 h4 fun z ws rw' => P φ σ Hf _ (.refl φ) (Same.refl _) (M.putL h1 hk hp rw')
        · cases hF
      · cases hF
    · cases hF
  · cases hF
end
end FL
namespace FL
open PySem PySem.Spec L2
/-! ### d.get(k), k a text or None -/
section
variable {X : Cx} {pins : List (Addr × Obj)} {σ : L2.St} {H : Hp} {s : Shared} {a : Addr} {kvs : List (Key × V)} {A : Around} {E : Value → Shared → Prop}
theorem d_getNone {Q : Value → Shared → Prop} (I : Inv X pins σ H s) (e : Rd H a (.dK kvs)) (h : ∀ s', Inv X pins σ H s' → Q .none s') : wpAny (model X.prog X.w) A (call (.builtin "dict.get") [.ref a, .none]) Q E s := by
  obtain ⟨_, hd, vs, _, dd⟩ := dk_rd I.hok e
  obtain ⟨f, hm, hf⟩ := none_map dd
  refine call_meetsIn PySem.F.slot_dict_get dd.typeIs PySem.F.entry_dict_get (PySem.F.args_dict_get_2 _ _) (meets_dict_get (noneKind X.prog X.w) a (show (noneKind X.prog X.w).is none .none = true from rfl) hd) ⟨_, hm, ?_⟩
  rw [hf]
  exact h _ (I.tok _)
end
section
variable {X : Cx} {O : List Nat} {o e : Expr} {F G : Env → Option D} {apos cpos : Pos} {td ty : TE}
def tDGetN (td ty : TE) : TE := fun σ H Q => td σ H fun x H1 => ∃ a, x = .ref a ∧ IsD H1 a ∧ ty σ H1 fun y H2 => (∃ o, DGet H2 a y o ∧ Q (o.getD .non) H2) ∨ (y = .non ∧ (∃ kvs, Rd H2 a (.dK kvs)) ∧ Q .non H2)
theorem pe_dgetN (hu : X.A.units + 1 < cLine) (ho : PE X o td) (he : PE X e ty) (m : L2.M1 X o "get" apos e cpos) : PE X (.Call (.Attribute o "get" apos) [e] [] cpos) (tDGetN td ty) := by
  refine ⟨fun pins s σ H Q I h => ?_⟩
  refine wpAny_Call_method m.base m.few m.line PySem.F.plainAttrs_dict PySem.F.slot_dict_get PySem.F.type_dict_get (thn (ho.run pins s σ H _ I h) fun u s1 ⟨x, H1, I1, rx, a, ex, d, q1⟩ => ?_)
  subst ex
  obtain rfl : u = Value.ref a := rx
  obtain ⟨t1, t2, _⟩ := isD_at I1 d
  refine ⟨t1, t2, ?_⟩
  rw [m.trees]
  refine Calls.callWith_builtin rfl (Calls.evalArgs_plain (Calls.spliced_cons (thn (he.run pins s1 σ H1 _ I1 q1) fun iv s2 ⟨y, H2, I2, ry, q2⟩ => Calls.spliced_nil ?_)))
  rcases q2 with ⟨ov, g, q2⟩ | ⟨ey, ⟨kvs, g⟩, q2⟩
  · exact d_get1 hu I2 g ry fun w' s3 I3 rw' => ⟨_, H2, I3, rw', q2⟩
  · subst ey
    obtain rfl : iv = Value.none := ry
    exact d_getNone I2 g fun s3 I3 => ⟨.non, H2, I3, rfl, q2⟩
def dgetND (x y : D) : Option D := match x, y with
  | .dct ks xs, .str k => (match dget k ks xs with | some d => some d | none => if dhas k ks = false then some .non else none)
  | .dct _ _, .non => some .non
  | _, _ => none
theorem fe_dgetN (hu : X.A.units + 64 < cLine) (ho : FE X O o F) (he : FE X O e G) (m : L2.M1 X o "get" apos e cpos := by exact ⟨rfl, rfl, rfl, rfl⟩) : FE X O (.Call (.Attribute o "get" apos) [e] [] cpos) (e2 dgetND F G) := fun φ Hf0 H0 ρ σ Hf H d Q S hF k => by
  obtain ⟨x, y, h1, h2, h3⟩ := e2_some hF
  unfold dgetND at h3
  split at h3
  · rename_i ks xs z
    refine toE (pe_dgetN (by omega) peW peW m) ?_
    refine ho φ Hf0 H0 ρ σ Hf H _ _ S h1 fun v1 Hf1 H1 g1 r1 => ?_
    cases r1 with
    | @dct a _ vs _ q l r =>
      refine ⟨a, rfl, .inl ⟨_, rd_mono g1.s q⟩, ?_⟩
      refine he φ Hf0 H0 ρ σ Hf1 H1 _ _ (S.gr g1) h2 fun v2 Hf2 H2 g2 r2 => ?_
      cases r2
      have D := dget_rd (k := .inr z) (rd_mono g2.s (rd_mono g2.f q))
      rw [valV_kz] at D
      split at h3
      · rename_i d' hd
        cases h3
        obtain ⟨v, e1, r3⟩ := (RpAll.dget z ks r).1 _ hd
        exact .inl ⟨_, D, k _ Hf2 H2 (g1.trans g2) (by rw [e1]; exact r3.mono g2.f)⟩
      · rename_i hd
        split at h3
        · cases h3
          have e1 := (RpAll.dget z ks r).2 hd
          exact .inl ⟨_, D, k _ Hf2 H2 (g1.trans g2) (by rw [e1]; exact .non)⟩
        · cases h3
  · rename_i ks xs
    cases h3
    refine toE (pe_dgetN (by omega) peW peW m) ?_
    refine ho φ Hf0 H0 ρ σ Hf H _ _ S h1 fun v1 Hf1 H1 g1 r1 => ?_
    cases r1 with
    | @dct a _ vs _ q l r =>
      refine ⟨a, rfl, .inl ⟨_, rd_mono g1.s q⟩, ?_⟩
      refine he φ Hf0 H0 ρ σ Hf1 H1 _ _ (S.gr g1) h2 fun v2 Hf2 H2 g2 r2 => ?_
      cases r2
      exact .inr ⟨rfl, ⟨_, rd_mono g2.s (rd_mono g2.f q)⟩, k _ Hf2 H2 (g1.trans g2) .non⟩
  · cases h3
/-- an __init__ with defaults, all arguments written -/
theorem calCM1_of {P : Program} {w : World} {K : PySem.W.Frag} {mg : Str → Option Value} {base : Heap} {k : Nat} {ps N : List Str} {q c : Str} {st : Stmt} {G : Env → List Ob → Option MOut} {dvs : List V} {kws : List (Str × V)} {N' n : Nat} (Dd : FnAt K "__init__" q st dvs kws (He.fAd K (c, some "__init__"))) (hne : dvs ≠ []) (hm : Mk K (He.ga K c) (He.ma K (He.ga K c) "__init__")) (hg : mg c = some (.ref (He.ga K c))) (S : FnScope N ps (defScope st)) (hN : N' = N.length) (hn : n + 1 = ps.length)
    (hbind : ∀ (T : Addr) (kV doc pm : Value) (an : Option Addr) (cdv ct : Value) (us its : List Value), us.length = ps.length → its.length = dvs.length →
      ∃ k, bindArgs (PySem.W.fnOf "__init__" q (defArgs st) (defBody st) (defScope st) (.ref T) kV doc pm an cdv ct) ⟨us, []⟩ = seqItems? (.ref T) >>= k ∧ k (some its.toArray) = pure (ps.zip (us ++ its.drop dvs.length)))
    (O' : List Nat)
    (hb : ∀ (cdv : Value) (A : Around) (outer : List PySem.Env) (s : Shared) (H : Hp) (E : XK), Room k (A.deeper (PyProof.Rows.envOfC q (defScope st) s.heap.objs.size (He.fAd K (c, some "__init__")) cdv)) →
      MSs (cxOf CX0 P w K mg base N q (defScope st) (He.fAd K (c, some "__init__")) cdv A outer s H E).nox [] O' (defBody st) G) : CalCD P w K mg base (k + 1) c n (runM N' (n + 1) G) [] := by
  obtain ⟨fd, F⟩ := Dd
  have fo := fnOk_m F S hN hn O' hb
  obtain ⟨ds, r, b⟩ := FunD.binds1 (ps := ps) F ps.length dvs.length hne (by rw [Nat.sub_self]; rfl) hbind
  rw [List.drop_length] at r
  cases r
  exact ⟨_, fd, ps, [], [], fo, hm, hg, b, .nil, fun _ _ => .nil⟩
end
end FL
namespace LW
open PySem PySem.Spec L2 FL
local macro_rules | `(tactic| walk_at "VIS") => `(tactic| first | exact Or.inl rfl | exact Or.inr (Or.inl rfl) | exact Or.inr (Or.inr rfl))
local macro_rules | `(tactic| walk_at "LOC") => `(tactic| first | exact Or.inl rfl | exact Or.inr rfl)
def top (i : Nat) : Stmt := PySem.Challenge.pw_lyingstandins_k12_thing_rows.main.body.getD i (.Pass ⟨0, 0, 0, 0⟩)
abbrev s__reading : Stmt := top 9
abbrev N__reading : List Str := ["field", "shut", "kind"]
theorem sc__reading : FnScope N__reading ["field", "shut", "kind"] (defScope s__reading) := ⟨rfl, rfl, rfl, by decide +kernel, rfl, by decide +kernel, by decide +kernel⟩
abbrev s__can_replace : Stmt := top 7
abbrev N__can_replace : List Str := ["old", "new"]
theorem sc__can_replace : FnScope N__can_replace ["old", "new"] (defScope s__can_replace) := ⟨rfl, rfl, rfl, by decide +kernel, rfl, by decide +kernel, by decide +kernel⟩
abbrev s__is_done : Stmt := top 6
abbrev N__is_done : List Str := ["field", "shut", "deed", "kind"]
theorem sc__is_done : FnScope N__is_done ["field", "shut", "deed"] (defScope s__is_done) := ⟨rfl, rfl, rfl, by decide +kernel, rfl, by decide +kernel, by decide +kernel⟩
abbrev s__field_after : Stmt := top 8
abbrev N__field_after : List Str := ["field", "deed", "kind"]
theorem sc__field_after : FnScope N__field_after ["field", "deed"] (defScope s__field_after) := ⟨rfl, rfl, rfl, by decide +kernel, rfl, by decide +kernel, by decide +kernel⟩
abbrev s_act : Stmt := top 5
abbrev N_act : List Str := ["standing", "deed", "field", "shut", "kind"]
theorem sc_act : FnScope N_act ["standing", "deed"] (defScope s_act) := ⟨rfl, rfl, rfl, by decide +kernel, rfl, by decide +kernel, by decide +kernel⟩
abbrev s_Recorded___init__ : Stmt := clsM (top 12) 0
abbrev N_Recorded___init__ : List Str := ["self"]
theorem sc_Recorded___init__ : FnScope N_Recorded___init__ ["self"] (defScope s_Recorded___init__) := ⟨rfl, rfl, rfl, by decide +kernel, rfl, by decide +kernel, by decide +kernel⟩
abbrev s__with_field : Stmt := top 13
abbrev N__with_field : List Str := ["fields", "name", "field", "other"]
theorem sc__with_field : FnScope N__with_field ["fields", "name", "field"] (defScope s__with_field) := ⟨rfl, rfl, rfl, by decide +kernel, rfl, by decide +kernel, by decide +kernel⟩
abbrev s_Thing___init__ : Stmt := clsM (top 14) 0
abbrev N_Thing___init__ : List Str := ["self", "rows", "name", "value", "changes", "goes"]
theorem sc_Thing___init__ : FnScope N_Thing___init__ ["self", "rows"] (defScope s_Thing___init__) := ⟨rfl, rfl, rfl, by decide +kernel, rfl, by decide +kernel, by decide +kernel⟩
abbrev s_Thing__done : Stmt := clsM (top 14) 2
abbrev N_Thing__done : List Str := ["self", "deed", "name", "answer", "field", "shut"]
theorem sc_Thing__done : FnScope N_Thing__done ["self", "deed"] (defScope s_Thing__done) := ⟨rfl, rfl, rfl, by decide +kernel, rfl, by decide +kernel, by decide +kernel⟩
abbrev s_Thing__keep : Stmt := clsM (top 12) 2
abbrev N_Thing__keep : List Str := ["self", "event"]
theorem sc_Thing__keep : FnScope N_Thing__keep ["self", "event"] (defScope s_Thing__keep) := ⟨rfl, rfl, rfl, by decide +kernel, rfl, by decide +kernel, by decide +kernel⟩
abbrev s_Thing_ask : Stmt := clsM (top 14) 1
abbrev N_Thing_ask : List Str := ["self", "deed", "answer"]
theorem sc_Thing_ask : FnScope N_Thing_ask ["self", "deed"] (defScope s_Thing_ask) := ⟨rfl, rfl, rfl, by decide +kernel, rfl, by decide +kernel, by decide +kernel⟩
abbrev s_Thing_history : Stmt := clsM (top 12) 1
abbrev N_Thing_history : List Str := ["self"]
theorem sc_Thing_history : FnScope N_Thing_history ["self"] (defScope s_Thing_history) := ⟨rfl, rfl, rfl, by decide +kernel, rfl, by decide +kernel, by decide +kernel⟩
abbrev s__law_cell : Stmt := top 16
abbrev N__law_cell : List Str := ["_law_script", "_law_k"]
theorem sc__law_cell : FnScope N__law_cell ["_law_script", "_law_k"] (defScope s__law_cell) := ⟨rfl, rfl, rfl, by decide +kernel, rfl, by decide +kernel, by decide +kernel⟩
abbrev s__law_draws : Stmt := top 17
abbrev N__law_draws : List Str := ["_law_cell_here", "_law_many", "_law_draws_here", "_law_rest", "_law_k", "_law_mixed"]
theorem sc__law_draws : FnScope N__law_draws ["_law_cell_here", "_law_many"] (defScope s__law_draws) := ⟨rfl, rfl, rfl, by decide +kernel, rfl, by decide +kernel, by decide +kernel⟩
abbrev s__law_defines : Stmt := top 18
abbrev N__law_defines : List Str := ["_law_old", "_law_shut", "_law_new"]
theorem sc__law_defines : FnScope N__law_defines ["_law_old", "_law_shut", "_law_new"] (defScope s__law_defines) := ⟨rfl, rfl, rfl, by decide +kernel, rfl, by decide +kernel, by decide +kernel⟩
abbrev s__law_act : Stmt := top 19
abbrev N__law_act : List Str := ["_law_field", "_law_shut", "_law_request_here", "_law_kind", "_law_new"]
theorem sc__law_act : FnScope N__law_act ["_law_field", "_law_shut", "_law_request_here"] (defScope s__law_act) := ⟨rfl, rfl, rfl, by decide +kernel, rfl, by decide +kernel, by decide +kernel⟩
abbrev s__law_spot : Stmt := top 20
abbrev N__law_spot : List Str := ["_law_draw", "_law_part", "_law_field"]
theorem sc__law_spot : FnScope N__law_spot ["_law_draw"] (defScope s__law_spot) := ⟨rfl, rfl, rfl, by decide +kernel, rfl, by decide +kernel, by decide +kernel⟩
abbrev s__law_is_same : Stmt := top 21
abbrev N__law_is_same : List Str := ["_law_got", "_law_due", "_law_k"]
theorem sc__law_is_same : FnScope N__law_is_same ["_law_got", "_law_due"] (defScope s__law_is_same) := ⟨rfl, rfl, rfl, by decide +kernel, rfl, by decide +kernel, by decide +kernel⟩
abbrev s__law_request : Stmt := top 22
abbrev N__law_request : List Str := ["_law_draw", "_law_width", "_law_label", "_law_rest", "_law_value", "_law_field", "_law_requests", "_law_last"]
theorem sc__law_request : FnScope N__law_request ["_law_draw", "_law_width"] (defScope s__law_request) := ⟨rfl, rfl, rfl, by decide +kernel, rfl, by decide +kernel, by decide +kernel⟩
abbrev s__law_does : Stmt := top 23
abbrev N__law_does : List Str := ["_law_fields", "_law_closed", "_law_request_here", "_law_kind", "_law_field", "_law_done"]
theorem sc__law_does : FnScope N__law_does ["_law_fields", "_law_closed", "_law_request_here"] (defScope s__law_does) := ⟨rfl, rfl, rfl, by decide +kernel, rfl, by decide +kernel, by decide +kernel⟩
abbrev s__law_starts : Stmt := top 24
abbrev N__law_starts : List Str := ["_law_draws_here", "_law_rows", "_law_k", "_law_field", "_law_label"]
theorem sc__law_starts : FnScope N__law_starts ["_law_draws_here"] (defScope s__law_starts) := ⟨rfl, rfl, rfl, by decide +kernel, rfl, by decide +kernel, by decide +kernel⟩
abbrev s_law : Stmt := top 25
abbrev N_law : List Str := ["_law_script", "_law_rows", "_law_fields", "_law_row", "_law_closed", "_law_first", "_law_thing", "_law_width", "_law_told", "_law_draw", "_law_request_here", "_law_due", "_law_got"]
theorem sc_law : FnScope N_law ["_law_script"] (defScope s_law) := ⟨rfl, rfl, rfl, by decide +kernel, rfl, by decide +kernel, by decide +kernel⟩
/-! ### the mirrors -/
def G__reading : FL.Env → Option Out :=
    (sSeq (sIf (tB blD (e2 eqD (eVar 2) (eC (.str "look"))))
      (sSeq (sRet (eVar 0))
    sNil)
      sNil)
    (sSeq (sIf (tB blD (e2 eqD (eVar 2) (eC (.str "has"))))
      (sSeq (sRet (e2 isntD (eVar 0) (eC .non)))
    sNil)
      sNil)
    (sSeq (sIf (tB blD (e2 eqD (eVar 2) (eC (.str "get"))))
      (sSeq (sRet (eIf (tB blD (e2 isD (eVar 0) (eC .non))) (eC .non) (e2 ixD (eVar 0) (eC (.int 0)))))
    sNil)
      sNil)
    (sSeq (sIf (tB blD (e2 eqD (eVar 2) (eC (.str "names"))))
      (sSeq (sRet (eIf (tB blD (e2 isD (eVar 0) (eC .non))) (eL tupD aNil) (eC (.tup [(.str "a")]))))
    sNil)
      sNil)
    (sForget [0, 2] (sSeq (sRet (eVar 1))
    sNil))))))
def m__reading : List D → Option D := runD false 3 3 G__reading
def G__can_replace : FL.Env → Option Out :=
    (sSeq (sRet (eOr (e2 ixD (eVar 0) (eC (.int 2))) (eAnd (e1 notD (e2 ixD (eVar 1) (eC (.int 2)))) (eOr (e2 ixD (eVar 0) (eC (.int 1))) (e2 eqD (eVar 0) (eVar 1))))))
    sNil)
def m__can_replace : List D → Option D := runD false 2 2 G__can_replace
def G__is_done : FL.Env → Option Out :=
    (sSeq (sSet 3 (e2 ixD (eVar 2) (eC (.int 0))))
    (sSeq (sIf (tB blD (e2 eqD (eVar 3) (eC (.str "take"))))
      (sSeq (sRet (eOr (e2 isD (eVar 0) (eC .non)) (e2 ixD (eVar 0) (eC (.int 2)))))
    sNil)
      sNil)
    (sSeq (sIf (tB blD (e2 isD (eVar 0) (eC .non)))
      (sSeq (sRet (e1 notD (eVar 1)))
    sNil)
      sNil)
    (sForget [1] (sSeq (sIf (tB blD (e2 eqD (eVar 3) (eC (.str "set"))))
      (sSeq (sRet (e2 ixD (eVar 0) (eC (.int 1))))
    sNil)
      sNil)
    (sForget [3] (sSeq (sRet (eL (mL 2 m__can_replace) (aCons (eVar 0) (aCons (eSl slD (eVar 2) (pYes (eC (.int 2))) pNo) aNil))))
    sNil)))))))
def m__is_done : List D → Option D := runD false 4 3 G__is_done
def G__field_after : FL.Env → Option Out :=
    (sSeq (sSet 2 (e2 ixD (eVar 1) (eC (.int 0))))
    (sSeq (sIf (tB blD (e2 eqD (eVar 2) (eC (.str "take"))))
      (sSeq (sRet (eC .non))
    sNil)
      sNil)
    (sSeq (sIf (tB blD (e2 eqD (eVar 2) (eC (.str "define"))))
      (sSeq (sRet (eSl slD (eVar 1) (pYes (eC (.int 2))) pNo))
    sNil)
      sNil)
    (sForget [2] (sSeq (sIf (tB blD (e2 isD (eVar 0) (eC .non)))
      (sSeq (sRet (eL tupD (aCons (e2 ixD (eVar 1) (eC (.int 2))) (aCons (eC (.bl true)) (aCons (eC (.bl true)) aNil)))))
    sNil)
      sNil)
    (sSeq (sRet (eL tupD (aCons (e2 ixD (eVar 1) (eC (.int 2))) (aCons (e2 ixD (eVar 0) (eC (.int 1))) (aCons (e2 ixD (eVar 0) (eC (.int 2))) aNil)))))
    sNil))))))
def m__field_after : List D → Option D := runD false 3 2 G__field_after
def G_act : FL.Env → Option Out :=
    (sSeq (sAsg (gTup (gCons (gSet 2) (gCons (gSet 3) gNil))) (eVar 0))
    (sSeq (sSet 4 (e2 ixD (eVar 1) (eC (.int 0))))
    (sSeq (sIf (tB blD (e2 inD (eVar 4) (eC (.tup [(.str "set"), (.str "define"), (.str "take")]))))
      (sSeq (sIf (tNot (tB truD (eL (mL 3 m__is_done) (aCons (eVar 2) (aCons (eVar 3) (aCons (eVar 1) aNil))))))
      (sSeq (sRet (eL tupD (aCons (eC (.bl false)) (aCons (eVar 0) aNil))))
    sNil)
      sNil)
    (sSeq (sRet (eL tupD (aCons (eC (.bl true)) (aCons (eL tupD (aCons (eL (mL 2 m__field_after) (aCons (eVar 2) (aCons (eVar 1) aNil))) (aCons (eVar 3) aNil))) aNil))))
    sNil))
      sNil)
    (sForget [1] (sSeq (sIf (tB blD (e2 eqD (eVar 4) (eC (.str "shut"))))
      (sSeq (sRet (eL tupD (aCons (eC (.bl true)) (aCons (eL tupD (aCons (eVar 2) (aCons (eC (.bl true)) aNil))) aNil))))
    sNil)
      sNil)
    (sSeq (sRet (eL tupD (aCons (eL (mL 3 m__reading) (aCons (eVar 2) (aCons (eVar 3) (aCons (eVar 4) aNil)))) (aCons (eVar 0) aNil))))
    sNil))))))
def m_act : List D → Option D := runD false 5 2 G_act
def G_Recorded___init__ : FL.Env → List Ob → Option MOut :=
    (mSeq (mPutA "Thing" "_history" (eVar 0) (mLst (eL lstD aNil)))
    mNil)
def m_Recorded___init__ : List D → List Ob → Option (D × List Ob) := runM 1 1 G_Recorded___init__
def G__with_field : FL.Env → Option Out :=
    (sSeq (sIf (tB blD (e2 isD (eVar 2) (eC .non)))
      (sSeq (sRet (eDcK 0 [3] (gSet 3) (tB blD (e2 neD (eVar 3) (eVar 1))) (eVar 3) (e2 dgetD (eVar 0) (eVar 3))))
    sNil)
      sNil)
    (sSeq (sRet (eStarD (eVar 0) (eVar 1) (eVar 2)))
    sNil))
def m__with_field : List D → Option D := runD false 4 3 G__with_field
def G_Thing___init__ : FL.Env → List Ob → Option MOut :=
    (mSeq (mEx (mCall 1 m_Recorded___init__ (qCons (qPure (eVar 0)) qNil)))
    (mSeq (mPutA "Thing" "_fields" (eVar 0) (qLkD (eDc [2, 3, 4, 5] (iSeq isLst (eVar 1)) (gTup (gCons (gSet 2) (gCons (gSet 3) (gCons (gSet 4) (gCons (gSet 5) gNil))))) tYesE (eVar 2) (eL tupD (aCons (eVar 3) (aCons (eVar 4) (aCons (eVar 5) aNil)))))))
    (mForget [1] (mSeq (mPutA "Thing" "_shut" (eVar 0) (qPure (eC (.bl false))))
    mNil))))
def m_Thing___init__ : List D → List Ob → Option (D × List Ob) := runM 6 2 G_Thing___init__
def G_Thing__done : FL.Env → List Ob → Option MOut :=
    (mSeq (mIf (qTp (tB blD (e2 eqD (eVar 1) (eC (.tup [(.str "names")])))))
      (mSeq (mRet (qLk (eTupD (e1 (fldD "Thing" "_fields") (eVar 0)))))
    mNil)
      mNil)
    (mSeq (mPure (sSet 2 (eIf (tB blD (e2 gtD (eL lenD (aCons (eVar 1) aNil)) (eC (.int 1)))) (e2 ixD (eVar 1) (eC (.int 1))) (eC .non))))
    (mSeq (mAsg (gTup (gCons (gSet 3) (gCons (gTup (gCons (gSet 4) (gCons (gSet 5) gNil))) gNil))) (qLk (eL (mL 2 m_act) (aCons (eL tupD (aCons (e2 dgetND (e1 (fldD "Thing" "_fields") (eVar 0)) (eVar 2)) (aCons (e1 (fldD "Thing" "_shut") (eVar 0)) aNil))) (aCons (eVar 1) aNil)))))
    (mForget [1] (mSeq (mPutA "Thing" "_shut" (eVar 0) (qPure (eVar 5)))
    (mForget [5] (mSeq (mIf (qTp (tB blD (e2 isntD (eVar 2) (eC .non))))
      (mSeq (mPutA "Thing" "_fields" (eVar 0) (mCall 3 (pMir m__with_field) (qCons (mFld "Thing" "_fields" (qPure (eVar 0))) (qCons (qPure (eVar 2)) (qCons (qPure (eVar 4)) qNil)))))
    mNil)
      mNil)
    (mForget [0, 2, 4] (mSeq (mPure (sRet (eVar 3)))
    mNil)))))))))
def m_Thing__done : List D → List Ob → Option (D × List Ob) := runM 6 2 G_Thing__done
def G_Thing__keep : FL.Env → List Ob → Option MOut :=
    (mSeq (mMutE (mFld "Thing" "_history" (qPure (eVar 0))) appendF (qPureA (aCons (eVar 1) aNil)))
    mNil)
def m_Thing__keep : List D → List Ob → Option (D × List Ob) := runM 2 2 G_Thing__keep
def G_Thing_ask : FL.Env → List Ob → Option MOut :=
    (mSeq (mSet 2 (mMe "Thing" "_done" 2 m_Thing__done (eVar 0) (qPureA (aCons (eVar 1) aNil))))
    (mSeq (mEx (mMe "Thing" "_keep" 2 m_Thing__keep (eVar 0) (qPureA (aCons (eL tupD (aCons (eVar 1) (aCons (eVar 2) aNil))) aNil))))
    (mForget [0, 1] (mSeq (mPure (sRet (eVar 2)))
    mNil))))
def m_Thing_ask : List D → List Ob → Option (D × List Ob) := runM 3 2 G_Thing_ask
def G_Thing_history : FL.Env → Option Out :=
    (sSeq (sRet (eL listOf (aCons (e1 (fldD "Thing" "_history") (eVar 0)) aNil)))
    sNil)
def m_Thing_history : List D → Option D := runD true 1 1 G_Thing_history
def G__law_cell : FL.Env → Option Out :=
    (sSeq (sIf (tB blD (e2 ltD (eVar 1) (eL lenD (aCons (eVar 0) aNil))))
      (sSeq (sRet (eL intD (aCons (e2 ixD (eVar 0) (eVar 1)) aNil)))
    sNil)
      sNil)
    (sForget [0, 1] (sSeq (sRet (eC (.int 0)))
    sNil)))
def m__law_cell : List D → Option D := runD false 2 2 G__law_cell
def G__law_draws : FL.Env → Option Out :=
    (sSeq (sSet 2 (eL lstD aNil))
    (sSeq (sSet 3 (eC (.int 0)))
    (sSeq (sIf (tB blD (e2 geD (eVar 0) (e2 powD (eC (.int 10)) (eC (.int 18)))))
      (sSeq (sSet 3 (e2 subD (eVar 0) (e2 powD (eC (.int 10)) (eC (.int 18)))))
    sNil)
      sNil)
    (sSeq (sFor (iRng1 (aCons (eVar 1) aNil)) (gSet 4)
      (sSeq (sSet 5 (e2 modD (eL intD (aCons (e2 addD (e2 addD (eVar 0) (e2 mulD (eC (.int 7919)) (eVar 4))) (eC (.int 13))) aNil)) (eC (.int 2147483647))))
    (sSeq (sSet 5 (e2 modD (eL intD (aCons (e2 addD (e2 mulD (eVar 5) (eVar 5)) (e2 mulD (eC (.int 48271)) (eVar 4))) aNil)) (eC (.int 2147483629))))
    (sSeq (sSet 5 (e2 modD (eL intD (aCons (e2 addD (e2 mulD (eVar 5) (eC (.int 69621))) (e2 fdivD (eVar 5) (eC (.int 1009)))) aNil)) (eC (.int 1000003))))
    (sSeq (sIf (tB blD (e2 gtD (eVar 3) (eC (.int 0))))
      (sSeq (sSet 5 (e2 modD (eL intD (aCons (eVar 3) aNil)) (eC (.int 1000003))))
    (sSeq (sSet 3 (e2 fdivD (eVar 3) (eC (.int 1000003))))
    sNil))
      sNil)
    (sSeq (sMut 2 appendF (aCons (eVar 5) aNil))
    sNil))))))
    (sForget [0, 1, 3, 4, 5] (sSeq (sRet (eVar 2))
    sNil))))))
def m__law_draws : List D → Option D := runD false 6 2 G__law_draws
def G__law_defines : FL.Env → Option Out :=
    (sSeq (sIf (tB blD (e2 isD (eVar 0) (eC .non)))
      (sSeq (sRet (e1 notD (eVar 1)))
    sNil)
      sNil)
    (sForget [1] (sSeq (sIf (tB truD (e2 ixD (eVar 0) (eC (.int 2))))
      (sSeq (sRet (eC (.bl true)))
    sNil)
      sNil)
    (sSeq (sRet (eAnd (e1 notD (e2 ixD (eVar 2) (eC (.int 2)))) (eOr (e2 ixD (eVar 0) (eC (.int 1))) (e2 eqD (eVar 0) (eVar 2)))))
    sNil))))
def m__law_defines : List D → Option D := runD false 3 3 G__law_defines
def G__law_act : FL.Env → Option Out :=
    (sSeq (sSet 3 (e2 ixD (eVar 2) (eC (.int 0))))
    (sSeq (sIf (tB blD (e2 eqD (eVar 3) (eC (.str "look"))))
      (sSeq (sRet (eL lstD (aCons (eVar 0) (aCons (eVar 0) (aCons (eVar 1) aNil)))))
    sNil)
      sNil)
    (sSeq (sIf (tB blD (e2 eqD (eVar 3) (eC (.str "has"))))
      (sSeq (sRet (eL lstD (aCons (e2 isntD (eVar 0) (eC .non)) (aCons (eVar 0) (aCons (eVar 1) aNil)))))
    sNil)
      sNil)
    (sSeq (sIf (tB blD (e2 eqD (eVar 3) (eC (.str "get"))))
      (sSeq (sIf (tB blD (e2 isD (eVar 0) (eC .non)))
      (sSeq (sRet (eL lstD (aCons (eC .non) (aCons (eVar 0) (aCons (eVar 1) aNil)))))
    sNil)
      sNil)
    (sSeq (sRet (eL lstD (aCons (e2 ixD (eVar 0) (eC (.int 0))) (aCons (eVar 0) (aCons (eVar 1) aNil)))))
    sNil))
      sNil)
    (sSeq (sIf (tB blD (e2 eqD (eVar 3) (eC (.str "shut"))))
      (sSeq (sRet (eL lstD (aCons (eC (.bl true)) (aCons (eVar 0) (aCons (eC (.bl true)) aNil)))))
    sNil)
      sNil)
    (sSeq (sIf (tB blD (e2 eqD (eVar 3) (eC (.str "isshut"))))
      (sSeq (sRet (eL lstD (aCons (eVar 1) (aCons (eVar 0) (aCons (eVar 1) aNil)))))
    sNil)
      sNil)
    (sSeq (sIf (tB blD (e2 eqD (eVar 3) (eC (.str "take"))))
      (sSeq (sIf (tAnd (tB blD (e2 isntD (eVar 0) (eC .non))) (tNot (tB truD (e2 ixD (eVar 0) (eC (.int 2))))))
      (sSeq (sRet (eL lstD (aCons (eC (.bl false)) (aCons (eVar 0) (aCons (eVar 1) aNil)))))
    sNil)
      sNil)
    (sSeq (sRet (eL lstD (aCons (eC (.bl true)) (aCons (eC .non) (aCons (eVar 1) aNil)))))
    sNil))
      sNil)
    (sSeq (sIf (tB blD (e2 eqD (eVar 3) (eC (.str "set"))))
      (sSeq (sIf (tAnd (tB blD (e2 isD (eVar 0) (eC .non))) (tNot (tB truD (eVar 1))))
      (sSeq (sRet (eL lstD (aCons (eC (.bl true)) (aCons (eL tupD (aCons (e2 ixD (eVar 2) (eC (.int 2))) (aCons (eC (.bl true)) (aCons (eC (.bl true)) aNil)))) (aCons (eVar 1) aNil)))))
    sNil)
      sNil)
    (sSeq (sIf (tAnd (tB blD (e2 isntD (eVar 0) (eC .non))) (tB truD (e2 ixD (eVar 0) (eC (.int 1)))))
      (sSeq (sRet (eL lstD (aCons (eC (.bl true)) (aCons (eL tupD (aCons (e2 ixD (eVar 2) (eC (.int 2))) (aCons (eC (.bl true)) (aCons (e2 ixD (eVar 0) (eC (.int 2))) aNil)))) (aCons (eVar 1) aNil)))))
    sNil)
      sNil)
    (sSeq (sRet (eL lstD (aCons (eC (.bl false)) (aCons (eVar 0) (aCons (eVar 1) aNil)))))
    sNil)))
      sNil)
    (sForget [3] (sSeq (sSet 4 (eL tupD (aCons (e2 ixD (eVar 2) (eC (.int 2))) (aCons (e2 ixD (eVar 2) (eC (.int 3))) (aCons (e2 ixD (eVar 2) (eC (.int 4))) aNil)))))
    (sForget [2] (sSeq (sIf (tB truD (eL (mL 3 m__law_defines) (aCons (eVar 0) (aCons (eVar 1) (aCons (eVar 4) aNil)))))
      (sSeq (sRet (eL lstD (aCons (eC (.bl true)) (aCons (eVar 4) (aCons (eVar 1) aNil)))))
    sNil)
      sNil)
    (sForget [4] (sSeq (sRet (eL lstD (aCons (eC (.bl false)) (aCons (eVar 0) (aCons (eVar 1) aNil)))))
    sNil))))))))))))))
def m__law_act : List D → Option D := runD true 5 3 G__law_act
def G__law_spot : FL.Env → Option Out :=
    (sSeq (sSet 1 (e2 modD (eL intD (aCons (eVar 0) aNil)) (eC (.int 200))))
    (sForget [0] (sSeq (sSet 2 (eL tupD (aCons (e2 modD (e2 fdivD (eVar 1) (eC (.int 2))) (eC (.int 10))) (aCons (e2 eqD (e2 modD (e2 fdivD (eVar 1) (eC (.int 20))) (eC (.int 2))) (eC (.int 1))) (aCons (e2 eqD (e2 modD (e2 fdivD (eVar 1) (eC (.int 40))) (eC (.int 2))) (eC (.int 1))) aNil)))))
    (sSeq (sIf (tB blD (e2 eqD (e2 fdivD (eVar 1) (eC (.int 80))) (eC (.int 2))))
      (sSeq (sSet 2 (eC .non))
    sNil)
      sNil)
    (sSeq (sRet (eL tupD (aCons (eVar 2) (aCons (e2 eqD (e2 modD (eVar 1) (eC (.int 2))) (eC (.int 1))) aNil))))
    sNil)))))
def m__law_spot : List D → Option D := runD false 3 1 G__law_spot
def G__law_is_same (r : List D → Option D) : FL.Env → Option Out :=
    (sSeq (sIf (tOr (tB truD (e1 (isiD "tuple") (eVar 1))) (tB truD (e1 (isiD "list") (eVar 1))))
      (sSeq (sIf (tAnd (tB truD (e1 (isiD "tuple") (eVar 1))) (tNot (tB truD (e1 (isiD "tuple") (eVar 0)))))
      (sSeq (sRet (eC (.bl false)))
    sNil)
      sNil)
    (sSeq (sIf (tAnd (tB truD (e1 (isiD "list") (eVar 1))) (tNot (tB truD (e1 (isiD "list") (eVar 0)))))
      (sSeq (sRet (eC (.bl false)))
    sNil)
      sNil)
    (sSeq (sIf (tB blD (e2 neD (eL lenD (aCons (eVar 0) aNil)) (eL lenD (aCons (eVar 1) aNil))))
      (sSeq (sRet (eC (.bl false)))
    sNil)
      sNil)
    (sSeq (sFor (iRng1 (aCons (eL lenD (aCons (eVar 1) aNil)) aNil)) (gSet 2)
      (sSeq (sIf (tNot (tB truD (eL (mL 2 r) (aCons (e2 ixD (eVar 0) (eVar 2)) (aCons (e2 ixD (eVar 1) (eVar 2)) aNil)))))
      (sSeq (sRet (eC (.bl false)))
    sNil)
      sNil)
    sNil))
    (sSeq (sRet (eC (.bl true)))
    sNil)))))
      sNil)
    (sForget [2] (sSeq (sIf (tB blD (e2 isD (eVar 1) (eC .non)))
      (sSeq (sRet (e2 isD (eVar 0) (eC .non)))
    sNil)
      sNil)
    (sSeq (sIf (tB truD (e1 (isiD "bool") (eVar 1)))
      (sSeq (sRet (eAnd (e1 (isiD "bool") (eVar 0)) (e2 eqD (eVar 0) (eVar 1))))
    sNil)
      sNil)
    (sSeq (sIf (tB truD (e1 (isiD "int") (eVar 1)))
      (sSeq (sRet (eAnd (e1 (isiD "int") (eVar 0)) (eAnd (e1 notD (e1 (isiD "bool") (eVar 0))) (e2 eqD (eVar 0) (eVar 1)))))
    sNil)
      sNil)
    (sSeq (sRet (eAnd (e1 (isiD "str") (eVar 0)) (e2 eqD (eVar 0) (eVar 1))))
    sNil))))))
def m__law_is_same : Nat → List D → Option D
  | 0 => fun _ => none
  | n + 1 => runD false 3 2 (G__law_is_same (m__law_is_same n))
def G__law_request : FL.Env → Option Out :=
    (sSeq (sSet 2 (e2 ixD (eC (.str "abcdefgh")) (e2 modD (eL intD (aCons (eVar 0) aNil)) (eVar 1))))
    (sForget [1] (sSeq (sSet 3 (e2 fdivD (eL intD (aCons (eVar 0) aNil)) (eC (.int 8))))
    (sForget [0] (sSeq (sSet 4 (e2 modD (e2 fdivD (eVar 3) (eC (.int 10))) (eC (.int 10))))
    (sSeq (sSet 5 (eL tupD (aCons (eVar 4) (aCons (e2 eqD (e2 modD (e2 fdivD (eVar 3) (eC (.int 100))) (eC (.int 2))) (eC (.int 1))) (aCons (e2 eqD (e2 modD (e2 fdivD (eVar 3) (eC (.int 200))) (eC (.int 2))) (eC (.int 1))) aNil)))))
    (sSeq (sSet 6 (eL lstD (aCons (eL tupD (aCons (eC (.str "look")) (aCons (eVar 2) aNil))) (aCons (eL tupD (aCons (eC (.str "has")) (aCons (eVar 2) aNil))) (aCons (eL tupD (aCons (eC (.str "get")) (aCons (eVar 2) aNil))) (aCons (eL tupD (aCons (eC (.str "set")) (aCons (eVar 2) (aCons (eVar 4) aNil)))) aNil))))))
    (sSeq (sSet 6 (e2 addD (eVar 6) (eL lstD (aCons (eL tupD (aCons (eC (.str "define")) (aCons (eVar 2) (aCons (eVar 4) (aCons (e2 ixD (eVar 5) (eC (.int 1))) (aCons (e2 ixD (eVar 5) (eC (.int 2))) aNil)))))) (aCons (eL tupD (aCons (eC (.str "set")) (aCons (eVar 2) (aCons (eVar 4) aNil)))) aNil)))))
    (sSeq (sSet 6 (e2 addD (eVar 6) (eL lstD (aCons (eL tupD (aCons (eC (.str "define")) (aCons (eVar 2) (aCons (eVar 4) (aCons (e2 ixD (eVar 5) (eC (.int 1))) (aCons (e2 ixD (eVar 5) (eC (.int 2))) aNil)))))) (aCons (eL tupD (aCons (eC (.str "take")) (aCons (eVar 2) aNil))) (aCons (eC (.tup [(.str "names")])) aNil))))))
    (sForget [2, 4, 5] (sSeq (sSet 7 (eC (.tup [(.str "isshut")])))
    (sSeq (sIf (tB blD (e2 eqD (e2 modD (e2 fdivD (eVar 3) (eC (.int 400))) (eC (.int 4))) (eC (.int 1))))
      (sSeq (sSet 7 (eC (.tup [(.str "shut")])))
    sNil)
      sNil)
    (sSeq (sRet (e2 ixD (e2 addD (eVar 6) (eL lstD (aCons (eVar 7) aNil))) (e2 modD (eVar 3) (eC (.int 10)))))
    sNil)))))))))))))
def m__law_request : List D → Option D := runD false 8 2 G__law_request
def G__law_does : FL.Env → List Ob → Option MOut :=
    (mSeq (mPure (sSet 3 (e2 ixD (eVar 2) (eC (.int 0)))))
    (mSeq (mIf (qTp (tB blD (e2 eqD (eVar 3) (eC (.str "names")))))
      (mSeq (mRet (qLk (eL tupOf (aCons (eLstD (eVar 0)) aNil))))
    mNil)
      mNil)
    (mSeq (mPure (sSet 4 (eC .non)))
    (mSeq (mIf (qTp (tB blD (e2 ninD (eVar 3) (eL lstD (aK [(.str "shut"), (.str "isshut")])))))
      (mSeq (mSet 4 (qLk (e2 dgetND (eVar 0) (e2 ixD (eVar 2) (eC (.int 1))))))
    mNil)
      mNil)
    (mForget [3] (mSeq (mSet 5 (qLkN (eL (mL 3 m__law_act) (aCons (eVar 4) (aCons (e2 ixD (eVar 1) (eC (.int 0))) (aCons (eVar 2) aNil))))))
    (mSeq (mPutI 1 (eC (.int 0)) (qPure (e2 ixD (eVar 5) (eC (.int 2)))))
    (mForget [1] (mSeq (mIf (qTp (tAnd (tB blD (e2 isntD (e2 ixD (eVar 5) (eC (.int 1))) (eC .non))) (tB blD (e2 neD (eVar 4) (e2 ixD (eVar 5) (eC (.int 1)))))))
      (mSeq (mPutD 0 (e2 ixD (eVar 2) (eC (.int 1))) (qPure (e2 ixD (eVar 5) (eC (.int 1)))))
    mNil)
      mNil)
    (mSeq (mIf (qTp (tAnd (tB blD (e2 isD (e2 ixD (eVar 5) (eC (.int 1))) (eC .non))) (tB blD (e2 isntD (eVar 4) (eC .non)))))
      (mSeq (mPopD 0 (e2 ixD (eVar 2) (eC (.int 1))))
    mNil)
      mNil)
    (mForget [0, 2, 4] (mSeq (mPure (sRet (e2 ixD (eVar 5) (eC (.int 0)))))
    mNil))))))))))))
def m__law_does : List D → List Ob → Option (D × List Ob) := runM 6 3 G__law_does
def G__law_starts : FL.Env → Option Out :=
    (sSeq (sSet 1 (eL lstD aNil))
    (sSeq (sFor (iRng1 (aCons (e2 modD (eL intD (aCons (e2 ixD (eVar 0) (eC (.int 0))) aNil)) (eC (.int 9))) aNil)) (gSet 2)
      (sSeq (sSet 3 (e2 ixD (eL (mL 1 m__law_spot) (aCons (e2 ixD (eVar 0) (e2 addD (eC (.int 1)) (eVar 2))) aNil)) (eC (.int 0))))
    (sSeq (sSet 4 (e2 ixD (eC (.str "abcdefgh")) (e2 modD (eL intD (aCons (e2 addD (e2 fdivD (e2 ixD (eVar 0) (eC (.int 0))) (eC (.int 9))) (e2 mulD (eVar 2) (e2 ixD (eL lstD (aK [(.int 1), (.int 3), (.int 5), (.int 7)])) (e2 modD (eL intD (aCons (e2 fdivD (e2 ixD (eVar 0) (eC (.int 0))) (eC (.int 72))) aNil)) (eC (.int 4)))))) aNil)) (eC (.int 8)))))
    (sSeq (sIf (tB blD (e2 isntD (eVar 3) (eC .non)))
      (sSeq (sMut 1 appendF (aCons (eL tupD (aCons (eVar 4) (aCons (e2 ixD (eVar 3) (eC (.int 0))) (aCons (e2 ixD (eVar 3) (eC (.int 1))) (aCons (e2 ixD (eVar 3) (eC (.int 2))) aNil))))) aNil))
    sNil)
      sNil)
    sNil))))
    (sForget [0, 2, 3, 4] (sSeq (sRet (eVar 1))
    sNil))))
def m__law_starts : List D → Option D := runD false 5 1 G__law_starts
def G_law : FL.Env → List Ob → Option MOut :=
    (mSeq (mPure (sSet 1 (eL (mL 1 m__law_starts) (aCons (eL (mL 2 m__law_draws) (aCons (eL (mL 2 m__law_cell) (aCons (eVar 0) (aCons (eC (.int 0)) aNil))) (aCons (eC (.int 9)) aNil))) aNil))))
    (mSeq (mSet 2 (mDct (eC (.dct [] []))))
    (mSeq (mForM (jPure (iSeq isLst (eVar 1))) (gSet 3)
      (mSeq (mPutD 2 (e2 ixD (eVar 3) (eC (.int 0))) (qPure (eL tupD (aCons (e2 ixD (eVar 3) (eC (.int 1))) (aCons (e2 ixD (eVar 3) (eC (.int 2))) (aCons (e2 ixD (eVar 3) (eC (.int 3))) aNil))))))
    mNil))
    (mForget [3] (mSeq (mSet 4 (mLst (eL lstD (aCons (eC (.bl false)) aNil))))
    (mSeq (mSet 5 (mLst (eL listOf (aCons (eVar 1) aNil))))
    (mForget [1] (mSeq (mSet 6 (mNewM "Thing" 1 m_Thing___init__ [] (qCons (qPure (eVar 5)) qNil)))
    (mSeq (mMut0 5 clearF)
    (mForget [5] (mSeq (mPure (sSet 7 (e2 ixD (eL lstD (aK [(.int 8), (.int 3)])) (e2 modD (eL (mL 2 m__law_cell) (aCons (eVar 0) (aCons (eC (.int 1)) aNil))) (eC (.int 2))))))
    (mSeq (mPure (sSet 8 (eL lstD aNil)))
    (mSeq (mForM (jPure (iSeq isLst (eL (mL 2 m__law_draws) (aCons (eL (mL 2 m__law_cell) (aCons (eVar 0) (aCons (eC (.int 2)) aNil))) (aCons (e2 modD (e2 fdivD (eL (mL 2 m__law_cell) (aCons (eVar 0) (aCons (eC (.int 1)) aNil))) (eC (.int 2))) (eC (.int 41))) aNil))))) (gSet 9)
      (mSeq (mPure (sSet 10 (eL (mL 2 m__law_request) (aCons (eVar 9) (aCons (eVar 7) aNil)))))
    (mSeq (mSet 11 (mCall 3 m__law_does (qCons (qPure (eVar 2)) (qCons (qPure (eVar 4)) (qCons (qPure (eVar 10)) qNil)))))
    (mSeq (mIf (qNot (qBl (mCall 2 (pMir (m__law_is_same 6)) (qCons (mMe "Thing" "ask" 2 m_Thing_ask (eVar 6) (qPureA (aCons (eVar 10) aNil))) (qCons (qPure (eVar 11)) qNil)))))
      (mSeq (mPure (sRet (eC (.bl false))))
    mNil)
      mNil)
    (mSeq (mPure (sMut 8 appendF (aCons (eL tupD (aCons (eVar 10) (aCons (eVar 11) aNil))) aNil)))
    mNil)))))
    (mForget [0, 4, 7, 9, 10, 11] (mSeq (mSet 12 (qLkL (eP "Thing" m_Thing_history (eVar 6))))
    (mSeq (mIf (qTl (tNot (tB truD (eL (mL 2 (m__law_is_same 6)) (aCons (eVar 12) (aCons (eVar 8) aNil))))))
      (mSeq (mPure (sRet (eC (.bl false))))
    mNil)
      mNil)
    (mSeq (mMut 12 appendF (qPureA (aCons (eC .non) aNil)))
    (mForget [12] (mSeq (mIf (qNot (qBl (mCall 2 (pMir (m__law_is_same 6)) (qCons (mMe "Thing" "ask" 2 m_Thing_ask (eVar 6) (qPureA (aCons (eC (.tup [(.str "names")])) aNil))) (qCons (qLk (eL tupOf (aCons (eLstD (eVar 2)) aNil))) qNil)))))
      (mSeq (mPure (sRet (eC (.bl false))))
    mNil)
      mNil)
    (mSeq (mRet (qLk (eL (mL 2 (m__law_is_same 6)) (aCons (eP "Thing" m_Thing_history (eVar 6)) (aCons (e2 addD (eVar 8) (eL lstD (aCons (eL tupD (aCons (eC (.tup [(.str "names")])) (aCons (eL tupOf (aCons (eLstD (eVar 2)) aNil)) aNil))) aNil))) aNil)))))
    mNil))))))))))))))))))))
def m_law : List D → List Ob → Option (D × List Ob) := runM 13 1 G_law
/-! ### what the top has left -/
structure TX (K : PySem.W.Frag) (mg : Str → Option Value) : Prop where
  c_Recorded : Cls K (He.ga K "Recorded")
  g_Recorded : mg "Recorded" = some (.ref (He.ga K "Recorded"))
  c_Thing : Cls K (He.ga K "Thing")
  g_Thing : mg "Thing" = some (.ref (He.ga K "Thing"))
  i_Thing : Mk K (He.ga K "Thing") (He.ma K (He.ga K "Thing") "__init__")
  n_Thing__fields : NoAttr K (He.ga K "Thing") "_fields"
  n_Thing__history : NoAttr K (He.ga K "Thing") "_history"
  n_Thing__shut : NoAttr K (He.ga K "Thing") "_shut"
  d__reading : DefAt K "_reading" s__reading (He.ga K "_reading")
  g__reading : mg "_reading" = some (.ref (He.ga K "_reading"))
  d__can_replace : DefAt K "_can_replace" s__can_replace (He.ga K "_can_replace")
  g__can_replace : mg "_can_replace" = some (.ref (He.ga K "_can_replace"))
  d__is_done : DefAt K "_is_done" s__is_done (He.ga K "_is_done")
  g__is_done : mg "_is_done" = some (.ref (He.ga K "_is_done"))
  d__field_after : DefAt K "_field_after" s__field_after (He.ga K "_field_after")
  g__field_after : mg "_field_after" = some (.ref (He.ga K "_field_after"))
  d_act : DefAt K "act" s_act (He.ga K "act")
  g_act : mg "act" = some (.ref (He.ga K "act"))
  d_Recorded___init__ : FnAt K "__init__" "Recorded.__init__" s_Recorded___init__ [] [] (He.fAd K ("Recorded", some "__init__"))
  d__with_field : DefAt K "_with_field" s__with_field (He.ga K "_with_field")
  g__with_field : mg "_with_field" = some (.ref (He.ga K "_with_field"))
  d_Thing___init__ : FnAt K "__init__" "Thing.__init__" s_Thing___init__ [V.ref (He.dflAt ("Thing", some "__init__") 0 K)] [] (He.fAd K ("Thing", some "__init__"))
  d_Thing__done : FnAt K "_done" "Thing._done" s_Thing__done [] [] (He.fAd K ("Thing", some "_done"))
  m_Thing__done : Meth K (He.ga K "Thing") "_done" (He.ma K (He.ga K "Thing") "_done")
  d_Thing__keep : FnAt K "_keep" "Recorded._keep" s_Thing__keep [] [] (He.fAd K ("Thing", some "_keep"))
  m_Thing__keep : Meth K (He.ga K "Thing") "_keep" (He.ma K (He.ga K "Thing") "_keep")
  d_Thing_ask : FnAt K "ask" "Thing.ask" s_Thing_ask [] [] (He.fAd K ("Thing", some "ask"))
  m_Thing_ask : Meth K (He.ga K "Thing") "ask" (He.ma K (He.ga K "Thing") "ask")
  d_Thing_history : FnAt K "history" "Recorded.history" s_Thing_history [] [] (pAd K (He.ga K "Thing") "history")
  d__law_cell : DefAt K "_law_cell" s__law_cell (He.ga K "_law_cell")
  g__law_cell : mg "_law_cell" = some (.ref (He.ga K "_law_cell"))
  d__law_draws : DefAt K "_law_draws" s__law_draws (He.ga K "_law_draws")
  g__law_draws : mg "_law_draws" = some (.ref (He.ga K "_law_draws"))
  d__law_defines : DefAt K "_law_defines" s__law_defines (He.ga K "_law_defines")
  g__law_defines : mg "_law_defines" = some (.ref (He.ga K "_law_defines"))
  d__law_act : DefAt K "_law_act" s__law_act (He.ga K "_law_act")
  g__law_act : mg "_law_act" = some (.ref (He.ga K "_law_act"))
  d__law_spot : DefAt K "_law_spot" s__law_spot (He.ga K "_law_spot")
  g__law_spot : mg "_law_spot" = some (.ref (He.ga K "_law_spot"))
  d__law_is_same : DefAt K "_law_is_same" s__law_is_same (He.ga K "_law_is_same")
  g__law_is_same : mg "_law_is_same" = some (.ref (He.ga K "_law_is_same"))
  d__law_request : DefAt K "_law_request" s__law_request (He.ga K "_law_request")
  g__law_request : mg "_law_request" = some (.ref (He.ga K "_law_request"))
  d__law_does : DefAt K "_law_does" s__law_does (He.ga K "_law_does")
  g__law_does : mg "_law_does" = some (.ref (He.ga K "_law_does"))
  d__law_starts : DefAt K "_law_starts" s__law_starts (He.ga K "_law_starts")
  g__law_starts : mg "_law_starts" = some (.ref (He.ga K "_law_starts"))
  d_law : DefAt K "law" s_law (He.ga K "law")
  g_law : mg "law" = some (.ref (He.ga K "law"))
  z_bool : mg "bool" = none
  z_int : mg "int" = none
  z_isinstance : mg "isinstance" = none
  z_len : mg "len" = none
  z_list : mg "list" = none
  z_range : mg "range" = none
  z_str : mg "str" = none
  z_tuple : mg "tuple" = none
  cf_Recorded___init__ : cfnB K "Recorded" "__init__" = true
  p_Thing_history : propB K "Thing" "history" = true
section
variable {P : Program} {w : World} {K : PySem.W.Frag} {mg : Str → Option Value} {base : Heap}
theorem cal__reading (T : TX K mg) : CalK P w K mg base 1 "_reading" false 3 m__reading := calK_of (ps := ["field", "shut", "kind"]) (N := N__reading) (T.d__reading) T.g__reading sc__reading rfl rfl (fun _ _ _ _ _ _ us hl => match us, hl with | [_, _, _], _ => rfl) [] (fun cdv A outer s H E hr =>
    (fss_cons (fs_if (O' := []) (ft_cmp (op_eqX (u64 hr)) o_eq (fb_var (i := 2) rfl (by walk_at "VIS")) (fb_of fe_str) (nomark _))
      (fss_cons (fs_ret (fe_var (i := 0) rfl (by walk_at "VIS") (by decide)))
    fss_nil)
      (fss_to fss_nil (by decide)))
    (fss_cons (fs_if (O' := []) (ft_cmp (op_eqX (u64 hr)) o_eq (fb_var (i := 2) rfl (by walk_at "VIS")) (fb_of fe_str) (nomark _))
      (fss_cons (fs_ret (fe_cmp op_isntX o_isnt (fb_var (i := 0) rfl (by walk_at "VIS")) (fb_of fe_non) (nomark _)))
    fss_nil)
      (fss_to fss_nil (by decide)))
    (fss_cons (fs_if (O' := []) (ft_cmp (op_eqX (u64 hr)) o_eq (fb_var (i := 2) rfl (by walk_at "VIS")) (fb_of fe_str) (nomark _))
      (fss_cons (fs_ret (fe_if (ft_cmp op_isX o_is (fb_var (i := 0) rfl (by walk_at "VIS")) (fb_of fe_non) (nomark _)) fe_non (fe_ix ix_seq o_ix (fb_var (i := 0) rfl (by walk_at "VIS")) (fb_of fe_int) (fun _ _ => rfl))))
    fss_nil)
      (fss_to fss_nil (by decide)))
    (fss_cons (fs_if (O' := []) (ft_cmp (op_eqX (u64 hr)) o_eq (fb_var (i := 2) rfl (by walk_at "VIS")) (fb_of fe_str) (nomark _))
      (fss_cons (fs_ret (fe_if (ft_cmp op_isX o_is (fb_var (i := 0) rfl (by walk_at "VIS")) (fb_of fe_non) (nomark _)) (fe_tup fa_nil) (fe_cst (by kernel_rfl))))
    fss_nil)
      (fss_to fss_nil (by decide)))
    (fss_forget [0, 2] (fss_cons (fs_ret (fe_var (i := 1) rfl (by walk_at "VIS") (by decide)))
    fss_nil)))))))
theorem cal__can_replace (T : TX K mg) : CalK P w K mg base 1 "_can_replace" false 2 m__can_replace := calK_of (ps := ["old", "new"]) (N := N__can_replace) (T.d__can_replace) T.g__can_replace sc__can_replace rfl rfl (fun _ _ _ _ _ _ us hl => match us, hl with | [_, _], _ => rfl) [] (fun cdv A outer s H E hr =>
    (fss_cons (fs_ret (fe_or (fe_ix ix_seq o_ix (fb_var (i := 0) rfl (by walk_at "VIS")) (fb_of fe_int) (fun _ _ => rfl)) (fe_one (fe_and (fe_not (fe_ix ix_seq o_ix (fb_var (i := 1) rfl (by walk_at "VIS")) (fb_of fe_int) (fun _ _ => rfl))) (fe_one (fe_or (fe_ix ix_seq o_ix (fb_var (i := 0) rfl (by walk_at "VIS")) (fb_of fe_int) (fun _ _ => rfl)) (fe_one (fe_cmp (op_eqX (u64 hr)) o_eq (fb_var (i := 0) rfl (by walk_at "VIS")) (fb_var (i := 1) rfl (by walk_at "VIS")) (nomark _)))))))))
    fss_nil))
theorem cal__is_done (T : TX K mg) : CalK P w K mg base 2 "_is_done" false 3 m__is_done := calK_of (ps := ["field", "shut", "deed"]) (N := N__is_done) (T.d__is_done) T.g__is_done sc__is_done rfl rfl (fun _ _ _ _ _ _ us hl => match us, hl with | [_, _, _], _ => rfl) [] (fun cdv A outer s H E hr =>
    (fss_cons (fs_set (i := 3) sc__is_done.nd rfl (by walk_at "LOC") (fe_ix ix_seq o_ix (fb_var (i := 2) rfl (by walk_at "VIS")) (fb_of fe_int) (fun _ _ => rfl)))
    (fss_cons (fs_if (O' := []) (ft_cmp (op_eqX (u64 hr)) o_eq (fb_var (i := 3) rfl (by walk_at "VIS")) (fb_of fe_str) (nomark _))
      (fss_cons (fs_ret (fe_or (fe_cmp op_isX o_is (fb_var (i := 0) rfl (by walk_at "VIS")) (fb_of fe_non) (nomark _)) (fe_one (fe_ix ix_seq o_ix (fb_var (i := 0) rfl (by walk_at "VIS")) (fb_of fe_int) (fun _ _ => rfl)))))
    fss_nil)
      (fss_to fss_nil (by decide)))
    (fss_cons (fs_if (O' := []) (ft_cmp op_isX o_is (fb_var (i := 0) rfl (by walk_at "VIS")) (fb_of fe_non) (nomark _))
      (fss_cons (fs_ret (fe_not (fe_var (i := 1) rfl (by walk_at "VIS") (by decide))))
    fss_nil)
      (fss_to fss_nil (by decide)))
    (fss_forget [1] (fss_cons (fs_if (O' := []) (ft_cmp (op_eqX (u64 hr)) o_eq (fb_var (i := 3) rfl (by walk_at "VIS")) (fb_of fe_str) (nomark _))
      (fss_cons (fs_ret (fe_ix ix_seq o_ix (fb_var (i := 0) rfl (by walk_at "VIS")) (fb_of fe_int) (fun _ _ => rfl)))
    fss_nil)
      (fss_to fss_nil (by decide)))
    (fss_forget [3] (fss_cons (fs_ret (fe_call (cal__can_replace T) hr (by decide) rfl (fa_cons (fe_var (i := 0) rfl (by walk_at "VIS") (by decide)) (fa_cons (fe_sl (fb_var (i := 2) rfl (by walk_at "VIS")) (fo_yes fe_int) fo_no) fa_nil))))
    fss_nil))))))))
theorem cal__field_after (T : TX K mg) : CalK P w K mg base 1 "_field_after" false 2 m__field_after := calK_of (ps := ["field", "deed"]) (N := N__field_after) (T.d__field_after) T.g__field_after sc__field_after rfl rfl (fun _ _ _ _ _ _ us hl => match us, hl with | [_, _], _ => rfl) [] (fun cdv A outer s H E hr =>
    (fss_cons (fs_set (i := 2) sc__field_after.nd rfl (by walk_at "LOC") (fe_ix ix_seq o_ix (fb_var (i := 1) rfl (by walk_at "VIS")) (fb_of fe_int) (fun _ _ => rfl)))
    (fss_cons (fs_if (O' := []) (ft_cmp (op_eqX (u64 hr)) o_eq (fb_var (i := 2) rfl (by walk_at "VIS")) (fb_of fe_str) (nomark _))
      (fss_cons (fs_ret fe_non)
    fss_nil)
      (fss_to fss_nil (by decide)))
    (fss_cons (fs_if (O' := []) (ft_cmp (op_eqX (u64 hr)) o_eq (fb_var (i := 2) rfl (by walk_at "VIS")) (fb_of fe_str) (nomark _))
      (fss_cons (fs_ret (fe_sl (fb_var (i := 1) rfl (by walk_at "VIS")) (fo_yes fe_int) fo_no))
    fss_nil)
      (fss_to fss_nil (by decide)))
    (fss_forget [2] (fss_cons (fs_if (O' := []) (ft_cmp op_isX o_is (fb_var (i := 0) rfl (by walk_at "VIS")) (fb_of fe_non) (nomark _))
      (fss_cons (fs_ret (fe_tup (fa_cons (fe_ix ix_seq o_ix (fb_var (i := 1) rfl (by walk_at "VIS")) (fb_of fe_int) (fun _ _ => rfl)) (fa_cons fe_bl (fa_cons fe_bl fa_nil)))))
    fss_nil)
      (fss_to fss_nil (by decide)))
    (fss_cons (fs_ret (fe_tup (fa_cons (fe_ix ix_seq o_ix (fb_var (i := 1) rfl (by walk_at "VIS")) (fb_of fe_int) (fun _ _ => rfl)) (fa_cons (fe_ix ix_seq o_ix (fb_var (i := 0) rfl (by walk_at "VIS")) (fb_of fe_int) (fun _ _ => rfl)) (fa_cons (fe_ix ix_seq o_ix (fb_var (i := 0) rfl (by walk_at "VIS")) (fb_of fe_int) (fun _ _ => rfl)) fa_nil)))))
    fss_nil)))))))
theorem cal_act (T : TX K mg) : CalK P w K mg base 3 "act" false 2 m_act := calK_of (ps := ["standing", "deed"]) (N := N_act) (T.d_act) T.g_act sc_act rfl rfl (fun _ _ _ _ _ _ us hl => match us, hl with | [_, _], _ => rfl) [] (fun cdv A outer s H E hr =>
    (fss_cons (fs_asg (fe_var (i := 0) rfl (by walk_at "VIS") (by decide)) (fg_tup rfl (fgs_cons (fg_name (i := 2) sc_act.nd rfl (by walk_at "LOC")) (fgs_cons (fg_name (i := 3) sc_act.nd rfl (by walk_at "LOC")) fgs_nil)) rfl (gCons_len (gCons_len gNil_len))))
    (fss_cons (fs_set (i := 4) sc_act.nd rfl (by walk_at "LOC") (fe_ix ix_seq o_ix (fb_var (i := 1) rfl (by walk_at "VIS")) (fb_of fe_int) (fun _ _ => rfl)))
    (fss_cons (fs_if (O' := []) (ft_cmp (op_inX (u65 hr)) o_in (fb_var (i := 4) rfl (by walk_at "VIS")) (fb_of (fe_cst (by kernel_rfl))) (by with_unfolding_all rfl))
      (fss_cons (fs_if (O' := []) (ft_not (ft_val (fe_call (cal__is_done T) hr (by decide) rfl (fa_cons (fe_var (i := 2) rfl (by walk_at "VIS") (by decide)) (fa_cons (fe_var (i := 3) rfl (by walk_at "VIS") (by decide)) (fa_cons (fe_var (i := 1) rfl (by walk_at "VIS") (by decide)) fa_nil))))))
      (fss_cons (fs_ret (fe_tup (fa_cons fe_bl (fa_cons (fe_var (i := 0) rfl (by walk_at "VIS") (by decide)) fa_nil))))
    fss_nil)
      (fss_to fss_nil (by decide)))
    (fss_cons (fs_ret (fe_tup (fa_cons fe_bl (fa_cons (fe_tup (fa_cons (fe_call (cal__field_after T) hr (by decide) rfl (fa_cons (fe_var (i := 2) rfl (by walk_at "VIS") (by decide)) (fa_cons (fe_var (i := 1) rfl (by walk_at "VIS") (by decide)) fa_nil))) (fa_cons (fe_var (i := 3) rfl (by walk_at "VIS") (by decide)) fa_nil))) fa_nil))))
    fss_nil))
      (fss_to fss_nil (by decide)))
    (fss_forget [1] (fss_cons (fs_if (O' := []) (ft_cmp (op_eqX (u64 hr)) o_eq (fb_var (i := 4) rfl (by walk_at "VIS")) (fb_of fe_str) (nomark _))
      (fss_cons (fs_ret (fe_tup (fa_cons fe_bl (fa_cons (fe_tup (fa_cons (fe_var (i := 2) rfl (by walk_at "VIS") (by decide)) (fa_cons fe_bl fa_nil))) fa_nil))))
    fss_nil)
      (fss_to fss_nil (by decide)))
    (fss_cons (fs_ret (fe_tup (fa_cons (fe_call (cal__reading T) hr (by decide) rfl (fa_cons (fe_var (i := 2) rfl (by walk_at "VIS") (by decide)) (fa_cons (fe_var (i := 3) rfl (by walk_at "VIS") (by decide)) (fa_cons (fe_var (i := 4) rfl (by walk_at "VIS") (by decide)) fa_nil)))) (fa_cons (fe_var (i := 0) rfl (by walk_at "VIS") (by decide)) fa_nil))))
    fss_nil)))))))
theorem cal_Recorded___init__ (T : TX K mg) : CalCF P w K mg base 1 "Recorded" "__init__" 1 m_Recorded___init__ := calCF_of (ps := ["self"]) (N := N_Recorded___init__) T.d_Recorded___init__ T.g_Recorded T.cf_Recorded___init__ sc_Recorded___init__ rfl rfl (fun _ _ _ _ _ _ us hl => match us, hl with | [_], _ => rfl) [] (fun cdv A outer s H E hr =>
    (mss_cons (ms_putA T.c_Thing T.n_Thing__history (me_list (fn_lst fa_nil)) (fe_var (i := 0) rfl (by walk_at "VIS") (by decide)))
    mss_nil))
theorem cal__with_field (T : TX K mg) : CalK P w K mg base 1 "_with_field" false 3 m__with_field := calK_of (ps := ["fields", "name", "field"]) (N := N__with_field) (T.d__with_field) T.g__with_field sc__with_field rfl rfl (fun _ _ _ _ _ _ us hl => match us, hl with | [_, _, _], _ => rfl) [] (fun cdv A outer s H E hr =>
    (fss_cons (fs_if (O' := []) (ft_cmp op_isX o_is (fb_var (i := 2) rfl (by walk_at "VIS")) (fb_of fe_non) (nomark _))
      (fss_cons (fs_ret (fe_of_fd (fd_dcK (i0 := 0) (own := [("other", 3)]) (tgs := [3]) rfl (by walk_at "VIS") (by decide) rfl sc__with_field.nd (blkOk_by (N := N__with_field) (sc := defScope s__with_field) (own := [("other", 3)]) (by decide +kernel)) (fun _ _ _ _ _ => (fg_name (i := 3) sc__with_field.nd rfl (by walk_at "LOC"))) (fun _ _ _ _ _ => (ft_cmp (op_neX (u64 hr)) o_ne (fb_var (i := 3) rfl (by walk_at "VIS")) (fb_var (i := 1) rfl (by walk_at "VIS")) (nomark _))) (fun _ _ _ _ _ => (fe_var (i := 3) rfl (by walk_at "VIS") (by decide))) (fun _ _ _ _ _ => (fe_dget (u64 hr) (fe_var (i := 0) rfl (by walk_at "VIS") (by decide)) (fe_var (i := 3) rfl (by walk_at "VIS") (by decide)))) (by decide))))
    fss_nil)
      (fss_to fss_nil (by decide)))
    (fss_cons (fs_ret (fe_of_fd (fd_starD (fe_var (i := 0) rfl (by walk_at "VIS") (by decide)) (fe_var (i := 1) rfl (by walk_at "VIS") (by decide)) (fe_var (i := 2) rfl (by walk_at "VIS") (by decide)))))
    fss_nil)))
theorem cal_Thing___init__ (T : TX K mg) : CalCD P w K mg base 3 "Thing" 1 m_Thing___init__ [] := calCM1_of (ps := ["self", "rows"]) (N := N_Thing___init__) T.d_Thing___init__ (by simp) T.i_Thing T.g_Thing sc_Thing___init__ rfl rfl (fun _ _ _ _ _ _ _ us its hl hm => match us, hl, its, hm with | [_, _], _, [_], _ => ⟨_, rfl, rfl⟩) [] (fun cdv A outer s H E hr =>
    (mss_cons (ms_exM (me_cfn (cal_Recorded___init__ T) hr (by decide) rfl (ma_cons (me_pure (fe_var (i := 0) rfl (by walk_at "VIS") (by decide))) ma_nil)))
    (mss_cons (ms_putA T.c_Thing T.n_Thing__fields (me_lookD (fd_dc (own := [("name", 2), ("value", 3), ("changes", 4), ("goes", 5)]) (tgs := [2, 3, 4, 5]) rfl sc_Thing___init__.nd (blkOk_by (N := N_Thing___init__) (sc := defScope s_Thing___init__) (own := [("name", 2), ("value", 3), ("changes", 4), ("goes", 5)]) (by decide +kernel)) (fib_list (fb_var (i := 1) rfl (by walk_at "VIS"))) (fun _ _ _ _ _ => (fg_tup rfl (fgs_cons (fg_name (i := 2) sc_Thing___init__.nd rfl (by walk_at "LOC")) (fgs_cons (fg_name (i := 3) sc_Thing___init__.nd rfl (by walk_at "LOC")) (fgs_cons (fg_name (i := 4) sc_Thing___init__.nd rfl (by walk_at "LOC")) (fgs_cons (fg_name (i := 5) sc_Thing___init__.nd rfl (by walk_at "LOC")) fgs_nil)))) rfl (gCons_len (gCons_len (gCons_len (gCons_len gNil_len)))))) (fun _ _ _ _ _ => (fe_var (i := 2) rfl (by walk_at "VIS") (by decide))) (fun _ _ _ _ _ => (fe_tup (fa_cons (fe_var (i := 3) rfl (by walk_at "VIS") (by decide)) (fa_cons (fe_var (i := 4) rfl (by walk_at "VIS") (by decide)) (fa_cons (fe_var (i := 5) rfl (by walk_at "VIS") (by decide)) fa_nil))))) (by decide))) (fe_var (i := 0) rfl (by walk_at "VIS") (by decide)))
    (mss_forget [1] (mss_cons (ms_putA T.c_Thing T.n_Thing__shut (me_pure fe_bl) (fe_var (i := 0) rfl (by walk_at "VIS") (by decide)))
    mss_nil)))))
theorem cal_Thing__done (T : TX K mg) : CalME P w K mg base 4 "Thing" "_done" 2 m_Thing__done := calME_of (ps := ["self", "deed"]) (N := N_Thing__done) T.d_Thing__done T.c_Thing T.m_Thing__done sc_Thing__done rfl rfl (fun _ _ _ _ _ _ us hl => match us, hl with | [_, _], _ => rfl) [] (fun cdv A outer s H E hr =>
    (mss_cons (ms_if (O' := []) (mt_pure (ft_cmp (op_eqX (u64 hr)) o_eq (fb_var (i := 1) rfl (by walk_at "VIS")) (fb_of (fe_cst (by kernel_rfl))) (nomark _)))
      (mss_cons (ms_ret (me_look (fe_tupD hr.hd (fe_fld T.c_Thing T.n_Thing__fields (fe_var (i := 0) rfl (by walk_at "VIS") (by decide))) rfl T.z_tuple (by decide +kernel))))
    mss_nil)
      (mss_to mss_nil (by decide)))
    (mss_cons (ms_pure (fs_set (i := 2) sc_Thing__done.nd rfl (by walk_at "LOC") (fe_if (ft_cmp op_gt o_gt (fb_of (fe_callB c_len l_len rfl T.z_len (by decide +kernel) (fba_cons (fb_var (i := 1) rfl (by walk_at "VIS")) fba_nil))) (fb_of fe_int) (nomark _)) (fe_ix ix_seq o_ix (fb_var (i := 1) rfl (by walk_at "VIS")) (fb_of fe_int) (fun _ _ => rfl)) fe_non)))
    (mss_cons (ms_asg (me_look (fe_call (cal_act T) hr (by decide) rfl (fa_cons (fe_tup (fa_cons (fe_dgetN (u64 hr) (fe_fld T.c_Thing T.n_Thing__fields (fe_var (i := 0) rfl (by walk_at "VIS") (by decide))) (fe_var (i := 2) rfl (by walk_at "VIS") (by decide))) (fa_cons (fe_fld T.c_Thing T.n_Thing__shut (fe_var (i := 0) rfl (by walk_at "VIS") (by decide))) fa_nil))) (fa_cons (fe_var (i := 1) rfl (by walk_at "VIS") (by decide)) fa_nil)))) (fg_tup rfl (fgs_cons (fg_name (i := 3) sc_Thing__done.nd rfl (by walk_at "LOC")) (fgs_cons (fg_tup rfl (fgs_cons (fg_name (i := 4) sc_Thing__done.nd rfl (by walk_at "LOC")) (fgs_cons (fg_name (i := 5) sc_Thing__done.nd rfl (by walk_at "LOC")) fgs_nil)) rfl (gCons_len (gCons_len gNil_len))) fgs_nil)) rfl (gCons_len (gCons_len gNil_len))))
    (mss_forget [1] (mss_cons (ms_putA T.c_Thing T.n_Thing__shut (me_pure (fe_var (i := 5) rfl (by walk_at "VIS") (by decide))) (fe_var (i := 0) rfl (by walk_at "VIS") (by decide)))
    (mss_forget [5] (mss_cons (ms_if (O' := []) (mt_pure (ft_cmp op_isntX o_isnt (fb_var (i := 2) rfl (by walk_at "VIS")) (fb_of fe_non) (nomark _)))
      (mss_to (mss_cons (ms_putA T.c_Thing T.n_Thing__fields (me_callK (cal__with_field T) hr (by decide) rfl (ma_cons (me_fld T.c_Thing T.n_Thing__fields (me_pure (fe_var (i := 0) rfl (by walk_at "VIS") (by decide)))) (ma_cons (me_pure (fe_var (i := 2) rfl (by walk_at "VIS") (by decide))) (ma_cons (me_pure (fe_var (i := 4) rfl (by walk_at "VIS") (by decide))) ma_nil)))) (fe_var (i := 0) rfl (by walk_at "VIS") (by decide)))
    mss_nil) (by decide))
      (mss_to mss_nil (by decide)))
    (mss_forget [0, 2, 4] (mss_cons (ms_pure (fs_ret (fe_var (i := 3) rfl (by walk_at "VIS") (by decide))))
    mss_nil))))))))))
theorem cal_Thing__keep (T : TX K mg) : CalME P w K mg base 1 "Thing" "_keep" 2 m_Thing__keep := calME_of (ps := ["self", "event"]) (N := N_Thing__keep) T.d_Thing__keep T.c_Thing T.m_Thing__keep sc_Thing__keep rfl rfl (fun _ _ _ _ _ _ us hl => match us, hl with | [_, _], _ => rfl) [] (fun cdv A outer s H E hr =>
    (mss_cons (ms_mutE (me_fld T.c_Thing T.n_Thing__history (me_pure (fe_var (i := 0) rfl (by walk_at "VIS") (by decide)))) PySem.F.slot_list_append PySem.F.type_list_append mt_append r_append (ma_pure (fa_cons (fe_var (i := 1) rfl (by walk_at "VIS") (by decide)) fa_nil)))
    mss_nil))
theorem cal_Thing_ask (T : TX K mg) : CalME P w K mg base 5 "Thing" "ask" 2 m_Thing_ask := calME_of (ps := ["self", "deed"]) (N := N_Thing_ask) T.d_Thing_ask T.c_Thing T.m_Thing_ask sc_Thing_ask rfl rfl (fun _ _ _ _ _ _ us hl => match us, hl with | [_, _], _ => rfl) [] (fun cdv A outer s H E hr =>
    (mss_cons (ms_set (i := 2) sc_Thing_ask.nd rfl (by walk_at "LOC") (me_meth (cal_Thing__done T) hr (by decide) (fe_var (i := 0) rfl (by walk_at "VIS") (by decide)) (ma_pure (fa_cons (fe_var (i := 1) rfl (by walk_at "VIS") (by decide)) fa_nil))))
    (mss_cons (ms_exM (me_meth (cal_Thing__keep T) hr (by decide) (fe_var (i := 0) rfl (by walk_at "VIS") (by decide)) (ma_pure (fa_cons (fe_tup (fa_cons (fe_var (i := 1) rfl (by walk_at "VIS") (by decide)) (fa_cons (fe_var (i := 2) rfl (by walk_at "VIS") (by decide)) fa_nil))) fa_nil))))
    (mss_forget [0, 1] (mss_cons (ms_pure (fs_ret (fe_var (i := 2) rfl (by walk_at "VIS") (by decide))))
    mss_nil)))))
theorem cal_Thing_history (T : TX K mg) : CalP P w K mg base 1 "Thing" "history" true m_Thing_history := calP_of (ps := ["self"]) (N := N_Thing_history) T.d_Thing_history T.c_Thing T.p_Thing_history sc_Thing_history rfl rfl (fun _ _ _ _ _ _ us hl => match us, hl with | [_], _ => rfl) [] (fun cdv A outer s H E hr =>
    (fss_cons (fs_retNew (fn_callTy call_list_of l_list rfl T.z_list (by decide +kernel) (fba_cons (fb_of (fe_fld T.c_Thing T.n_Thing__history (fe_var (i := 0) rfl (by walk_at "VIS") (by decide)))) fba_nil)))
    fss_nil))
theorem cal__law_cell (T : TX K mg) : CalK P w K mg base 1 "_law_cell" false 2 m__law_cell := calK_of (ps := ["_law_script", "_law_k"]) (N := N__law_cell) (T.d__law_cell) T.g__law_cell sc__law_cell rfl rfl (fun _ _ _ _ _ _ us hl => match us, hl with | [_, _], _ => rfl) [] (fun cdv A outer s H E hr =>
    (fss_cons (fs_if (O' := []) (ft_cmp op_lt o_lt (fb_var (i := 1) rfl (by walk_at "VIS")) (fb_of (fe_callB c_len l_len rfl T.z_len (by decide +kernel) (fba_cons (fb_var (i := 0) rfl (by walk_at "VIS")) fba_nil))) (nomark _))
      (fss_cons (fs_ret (fe_callTy call_int1 l_int rfl T.z_int (by decide +kernel) (fba_cons (fb_of (fe_ix ix_seq o_ix (fb_var (i := 0) rfl (by walk_at "VIS")) (fb_var (i := 1) rfl (by walk_at "VIS")) (fun _ _ => rfl))) fba_nil)))
    fss_nil)
      (fss_to fss_nil (by decide)))
    (fss_forget [0, 1] (fss_cons (fs_ret fe_int)
    fss_nil))))
theorem cal__law_draws (T : TX K mg) : CalK P w K mg base 1 "_law_draws" false 2 m__law_draws := calK_of (ps := ["_law_cell_here", "_law_many"]) (N := N__law_draws) (T.d__law_draws) T.g__law_draws sc__law_draws rfl rfl (fun _ _ _ _ _ _ us hl => match us, hl with | [_, _], _ => rfl) [] (fun cdv A outer s H E hr =>
    (fss_cons (fs_setNew (i := 2) sc__law_draws.nd rfl (by walk_at "LOC") (fn_lst fa_nil))
    (fss_cons (fs_set (i := 3) sc__law_draws.nd rfl (by walk_at "LOC") fe_int)
    (fss_cons (fs_if (O' := [2]) (ft_cmp op_ge o_ge (fb_var (i := 0) rfl (by walk_at "VIS")) (fb_of (fe_op op_pow o_pow (fb_of fe_int) (fb_of fe_int))) (nomark _))
      (fss_to (fss_cons (fs_set (i := 3) sc__law_draws.nd rfl (by walk_at "LOC") (fe_op op_sub o_sub (fb_var (i := 0) rfl (by walk_at "VIS")) (fb_of (fe_op op_pow o_pow (fb_of fe_int) (fb_of fe_int)))))
    fss_nil) (by decide))
      (fss_to fss_nil (by decide)))
    (fss_cons (fs_for PassesOwn.never rfl (fi_rng1 rfl T.z_range (fa_cons (fe_var (i := 1) rfl (by walk_at "VIS") (by decide)) fa_nil)) (fg_name (i := 4) sc__law_draws.nd rfl (by walk_at "LOC"))
      (fss_to (fss_cons (fs_set (i := 5) sc__law_draws.nd rfl (by walk_at "LOC") (fe_op op_mod o_mod (fb_of (fe_callTy call_int1 l_int rfl T.z_int (by decide +kernel) (fba_cons (fb_of (fe_op op_addX o_add (fb_of (fe_op op_addX o_add (fb_var (i := 0) rfl (by walk_at "VIS")) (fb_of (fe_op op_mul o_mul (fb_of fe_int) (fb_var (i := 4) rfl (by walk_at "VIS")))))) (fb_of fe_int))) fba_nil))) (fb_of fe_int)))
    (fss_cons (fs_set (i := 5) sc__law_draws.nd rfl (by walk_at "LOC") (fe_op op_mod o_mod (fb_of (fe_callTy call_int1 l_int rfl T.z_int (by decide +kernel) (fba_cons (fb_of (fe_op op_addX o_add (fb_of (fe_op op_mul o_mul (fb_var (i := 5) rfl (by walk_at "VIS")) (fb_var (i := 5) rfl (by walk_at "VIS")))) (fb_of (fe_op op_mul o_mul (fb_of fe_int) (fb_var (i := 4) rfl (by walk_at "VIS")))))) fba_nil))) (fb_of fe_int)))
    (fss_cons (fs_set (i := 5) sc__law_draws.nd rfl (by walk_at "LOC") (fe_op op_mod o_mod (fb_of (fe_callTy call_int1 l_int rfl T.z_int (by decide +kernel) (fba_cons (fb_of (fe_op op_addX o_add (fb_of (fe_op op_mul o_mul (fb_var (i := 5) rfl (by walk_at "VIS")) (fb_of fe_int))) (fb_of (fe_op op_fdiv o_fdiv (fb_var (i := 5) rfl (by walk_at "VIS")) (fb_of fe_int))))) fba_nil))) (fb_of fe_int)))
    (fss_cons (fs_if (O' := [2]) (ft_cmp op_gt o_gt (fb_var (i := 3) rfl (by walk_at "VIS")) (fb_of fe_int) (nomark _))
      (fss_to (fss_cons (fs_set (i := 5) sc__law_draws.nd rfl (by walk_at "LOC") (fe_op op_mod o_mod (fb_of (fe_callTy call_int1 l_int rfl T.z_int (by decide +kernel) (fba_cons (fb_var (i := 3) rfl (by walk_at "VIS")) fba_nil))) (fb_of fe_int)))
    (fss_cons (fs_set (i := 3) sc__law_draws.nd rfl (by walk_at "LOC") (fe_op op_fdiv o_fdiv (fb_var (i := 3) rfl (by walk_at "VIS")) (fb_of fe_int)))
    fss_nil)) (by decide))
      (fss_to fss_nil (by decide)))
    (fss_cons (fs_mut (i := 2) rfl (by walk_at "VIS") (by decide) PySem.F.slot_list_append PySem.F.type_list_append mt_append r_append (fa_cons (fe_var (i := 5) rfl (by walk_at "VIS") (by decide)) fa_nil))
    fss_nil))))) (by decide)))
    (fss_forget [0, 1, 3, 4, 5] (fss_cons (fs_frz (O1 := []) (fs_ret (fe_var (i := 2) rfl (by walk_at "VIS") (by decide))) (by decide))
    fss_nil)))))))
theorem cal__law_defines (T : TX K mg) : CalK P w K mg base 1 "_law_defines" false 3 m__law_defines := calK_of (ps := ["_law_old", "_law_shut", "_law_new"]) (N := N__law_defines) (T.d__law_defines) T.g__law_defines sc__law_defines rfl rfl (fun _ _ _ _ _ _ us hl => match us, hl with | [_, _, _], _ => rfl) [] (fun cdv A outer s H E hr =>
    (fss_cons (fs_if (O' := []) (ft_cmp op_isX o_is (fb_var (i := 0) rfl (by walk_at "VIS")) (fb_of fe_non) (nomark _))
      (fss_cons (fs_ret (fe_not (fe_var (i := 1) rfl (by walk_at "VIS") (by decide))))
    fss_nil)
      (fss_to fss_nil (by decide)))
    (fss_forget [1] (fss_cons (fs_if (O' := []) (ft_val (fe_ix ix_seq o_ix (fb_var (i := 0) rfl (by walk_at "VIS")) (fb_of fe_int) (fun _ _ => rfl)))
      (fss_cons (fs_ret fe_bl)
    fss_nil)
      (fss_to fss_nil (by decide)))
    (fss_cons (fs_ret (fe_and (fe_not (fe_ix ix_seq o_ix (fb_var (i := 2) rfl (by walk_at "VIS")) (fb_of fe_int) (fun _ _ => rfl))) (fe_one (fe_or (fe_ix ix_seq o_ix (fb_var (i := 0) rfl (by walk_at "VIS")) (fb_of fe_int) (fun _ _ => rfl)) (fe_one (fe_cmp (op_eqX (u64 hr)) o_eq (fb_var (i := 0) rfl (by walk_at "VIS")) (fb_var (i := 2) rfl (by walk_at "VIS")) (nomark _)))))))
    fss_nil)))))
theorem cal__law_act (T : TX K mg) : CalK P w K mg base 2 "_law_act" true 3 m__law_act := calK_of (ps := ["_law_field", "_law_shut", "_law_request_here"]) (N := N__law_act) (T.d__law_act) T.g__law_act sc__law_act rfl rfl (fun _ _ _ _ _ _ us hl => match us, hl with | [_, _, _], _ => rfl) [] (fun cdv A outer s H E hr =>
    (fss_cons (fs_set (i := 3) sc__law_act.nd rfl (by walk_at "LOC") (fe_ix ix_seq o_ix (fb_var (i := 2) rfl (by walk_at "VIS")) (fb_of fe_int) (fun _ _ => rfl)))
    (fss_cons (fs_if (O' := []) (ft_cmp (op_eqX (u64 hr)) o_eq (fb_var (i := 3) rfl (by walk_at "VIS")) (fb_of fe_str) (nomark _))
      (fss_cons (fs_retNew (fn_lst (fa_cons (fe_var (i := 0) rfl (by walk_at "VIS") (by decide)) (fa_cons (fe_var (i := 0) rfl (by walk_at "VIS") (by decide)) (fa_cons (fe_var (i := 1) rfl (by walk_at "VIS") (by decide)) fa_nil)))))
    fss_nil)
      (fss_to fss_nil (by decide)))
    (fss_cons (fs_if (O' := []) (ft_cmp (op_eqX (u64 hr)) o_eq (fb_var (i := 3) rfl (by walk_at "VIS")) (fb_of fe_str) (nomark _))
      (fss_cons (fs_retNew (fn_lst (fa_cons (fe_cmp op_isntX o_isnt (fb_var (i := 0) rfl (by walk_at "VIS")) (fb_of fe_non) (nomark _)) (fa_cons (fe_var (i := 0) rfl (by walk_at "VIS") (by decide)) (fa_cons (fe_var (i := 1) rfl (by walk_at "VIS") (by decide)) fa_nil)))))
    fss_nil)
      (fss_to fss_nil (by decide)))
    (fss_cons (fs_if (O' := []) (ft_cmp (op_eqX (u64 hr)) o_eq (fb_var (i := 3) rfl (by walk_at "VIS")) (fb_of fe_str) (nomark _))
      (fss_cons (fs_if (O' := []) (ft_cmp op_isX o_is (fb_var (i := 0) rfl (by walk_at "VIS")) (fb_of fe_non) (nomark _))
      (fss_cons (fs_retNew (fn_lst (fa_cons fe_non (fa_cons (fe_var (i := 0) rfl (by walk_at "VIS") (by decide)) (fa_cons (fe_var (i := 1) rfl (by walk_at "VIS") (by decide)) fa_nil)))))
    fss_nil)
      (fss_to fss_nil (by decide)))
    (fss_cons (fs_retNew (fn_lst (fa_cons (fe_ix ix_seq o_ix (fb_var (i := 0) rfl (by walk_at "VIS")) (fb_of fe_int) (fun _ _ => rfl)) (fa_cons (fe_var (i := 0) rfl (by walk_at "VIS") (by decide)) (fa_cons (fe_var (i := 1) rfl (by walk_at "VIS") (by decide)) fa_nil)))))
    fss_nil))
      (fss_to fss_nil (by decide)))
    (fss_cons (fs_if (O' := []) (ft_cmp (op_eqX (u64 hr)) o_eq (fb_var (i := 3) rfl (by walk_at "VIS")) (fb_of fe_str) (nomark _))
      (fss_cons (fs_retNew (fn_lst (fa_cons fe_bl (fa_cons (fe_var (i := 0) rfl (by walk_at "VIS") (by decide)) (fa_cons fe_bl fa_nil)))))
    fss_nil)
      (fss_to fss_nil (by decide)))
    (fss_cons (fs_if (O' := []) (ft_cmp (op_eqX (u64 hr)) o_eq (fb_var (i := 3) rfl (by walk_at "VIS")) (fb_of fe_str) (nomark _))
      (fss_cons (fs_retNew (fn_lst (fa_cons (fe_var (i := 1) rfl (by walk_at "VIS") (by decide)) (fa_cons (fe_var (i := 0) rfl (by walk_at "VIS") (by decide)) (fa_cons (fe_var (i := 1) rfl (by walk_at "VIS") (by decide)) fa_nil)))))
    fss_nil)
      (fss_to fss_nil (by decide)))
    (fss_cons (fs_if (O' := []) (ft_cmp (op_eqX (u64 hr)) o_eq (fb_var (i := 3) rfl (by walk_at "VIS")) (fb_of fe_str) (nomark _))
      (fss_cons (fs_if (O' := []) (ft_w (fw_and (ft_cmp op_isntX o_isnt (fb_var (i := 0) rfl (by walk_at "VIS")) (fb_of fe_non) (nomark _)) (fw_and1 (ft_not (ft_val (fe_ix ix_seq o_ix (fb_var (i := 0) rfl (by walk_at "VIS")) (fb_of fe_int) (fun _ _ => rfl)))))))
      (fss_cons (fs_retNew (fn_lst (fa_cons fe_bl (fa_cons (fe_var (i := 0) rfl (by walk_at "VIS") (by decide)) (fa_cons (fe_var (i := 1) rfl (by walk_at "VIS") (by decide)) fa_nil)))))
    fss_nil)
      (fss_to fss_nil (by decide)))
    (fss_cons (fs_retNew (fn_lst (fa_cons fe_bl (fa_cons fe_non (fa_cons (fe_var (i := 1) rfl (by walk_at "VIS") (by decide)) fa_nil)))))
    fss_nil))
      (fss_to fss_nil (by decide)))
    (fss_cons (fs_if (O' := []) (ft_cmp (op_eqX (u64 hr)) o_eq (fb_var (i := 3) rfl (by walk_at "VIS")) (fb_of fe_str) (nomark _))
      (fss_cons (fs_if (O' := []) (ft_w (fw_and (ft_cmp op_isX o_is (fb_var (i := 0) rfl (by walk_at "VIS")) (fb_of fe_non) (nomark _)) (fw_and1 (ft_not (ft_val (fe_var (i := 1) rfl (by walk_at "VIS") (by decide)))))))
      (fss_cons (fs_retNew (fn_lst (fa_cons fe_bl (fa_cons (fe_tup (fa_cons (fe_ix ix_seq o_ix (fb_var (i := 2) rfl (by walk_at "VIS")) (fb_of fe_int) (fun _ _ => rfl)) (fa_cons fe_bl (fa_cons fe_bl fa_nil)))) (fa_cons (fe_var (i := 1) rfl (by walk_at "VIS") (by decide)) fa_nil)))))
    fss_nil)
      (fss_to fss_nil (by decide)))
    (fss_cons (fs_if (O' := []) (ft_w (fw_and (ft_cmp op_isntX o_isnt (fb_var (i := 0) rfl (by walk_at "VIS")) (fb_of fe_non) (nomark _)) (fw_and1 (ft_val (fe_ix ix_seq o_ix (fb_var (i := 0) rfl (by walk_at "VIS")) (fb_of fe_int) (fun _ _ => rfl))))))
      (fss_cons (fs_retNew (fn_lst (fa_cons fe_bl (fa_cons (fe_tup (fa_cons (fe_ix ix_seq o_ix (fb_var (i := 2) rfl (by walk_at "VIS")) (fb_of fe_int) (fun _ _ => rfl)) (fa_cons fe_bl (fa_cons (fe_ix ix_seq o_ix (fb_var (i := 0) rfl (by walk_at "VIS")) (fb_of fe_int) (fun _ _ => rfl)) fa_nil)))) (fa_cons (fe_var (i := 1) rfl (by walk_at "VIS") (by decide)) fa_nil)))))
    fss_nil)
      (fss_to fss_nil (by decide)))
    (fss_cons (fs_retNew (fn_lst (fa_cons fe_bl (fa_cons (fe_var (i := 0) rfl (by walk_at "VIS") (by decide)) (fa_cons (fe_var (i := 1) rfl (by walk_at "VIS") (by decide)) fa_nil)))))
    fss_nil)))
      (fss_to fss_nil (by decide)))
    (fss_forget [3] (fss_cons (fs_set (i := 4) sc__law_act.nd rfl (by walk_at "LOC") (fe_tup (fa_cons (fe_ix ix_seq o_ix (fb_var (i := 2) rfl (by walk_at "VIS")) (fb_of fe_int) (fun _ _ => rfl)) (fa_cons (fe_ix ix_seq o_ix (fb_var (i := 2) rfl (by walk_at "VIS")) (fb_of fe_int) (fun _ _ => rfl)) (fa_cons (fe_ix ix_seq o_ix (fb_var (i := 2) rfl (by walk_at "VIS")) (fb_of fe_int) (fun _ _ => rfl)) fa_nil)))))
    (fss_forget [2] (fss_cons (fs_if (O' := []) (ft_val (fe_call (cal__law_defines T) hr (by decide) rfl (fa_cons (fe_var (i := 0) rfl (by walk_at "VIS") (by decide)) (fa_cons (fe_var (i := 1) rfl (by walk_at "VIS") (by decide)) (fa_cons (fe_var (i := 4) rfl (by walk_at "VIS") (by decide)) fa_nil)))))
      (fss_cons (fs_retNew (fn_lst (fa_cons fe_bl (fa_cons (fe_var (i := 4) rfl (by walk_at "VIS") (by decide)) (fa_cons (fe_var (i := 1) rfl (by walk_at "VIS") (by decide)) fa_nil)))))
    fss_nil)
      (fss_to fss_nil (by decide)))
    (fss_forget [4] (fss_cons (fs_retNew (fn_lst (fa_cons fe_bl (fa_cons (fe_var (i := 0) rfl (by walk_at "VIS") (by decide)) (fa_cons (fe_var (i := 1) rfl (by walk_at "VIS") (by decide)) fa_nil)))))
    fss_nil)))))))))))))))
theorem cal__law_spot (T : TX K mg) : CalK P w K mg base 1 "_law_spot" false 1 m__law_spot := calK_of (ps := ["_law_draw"]) (N := N__law_spot) (T.d__law_spot) T.g__law_spot sc__law_spot rfl rfl (fun _ _ _ _ _ _ us hl => match us, hl with | [_], _ => rfl) [] (fun cdv A outer s H E hr =>
    (fss_cons (fs_set (i := 1) sc__law_spot.nd rfl (by walk_at "LOC") (fe_op op_mod o_mod (fb_of (fe_callTy call_int1 l_int rfl T.z_int (by decide +kernel) (fba_cons (fb_var (i := 0) rfl (by walk_at "VIS")) fba_nil))) (fb_of fe_int)))
    (fss_forget [0] (fss_cons (fs_set (i := 2) sc__law_spot.nd rfl (by walk_at "LOC") (fe_tup (fa_cons (fe_op op_mod o_mod (fb_of (fe_op op_fdiv o_fdiv (fb_var (i := 1) rfl (by walk_at "VIS")) (fb_of fe_int))) (fb_of fe_int)) (fa_cons (fe_cmp (op_eqX (u64 hr)) o_eq (fb_of (fe_op op_mod o_mod (fb_of (fe_op op_fdiv o_fdiv (fb_var (i := 1) rfl (by walk_at "VIS")) (fb_of fe_int))) (fb_of fe_int))) (fb_of fe_int) (nomark _)) (fa_cons (fe_cmp (op_eqX (u64 hr)) o_eq (fb_of (fe_op op_mod o_mod (fb_of (fe_op op_fdiv o_fdiv (fb_var (i := 1) rfl (by walk_at "VIS")) (fb_of fe_int))) (fb_of fe_int))) (fb_of fe_int) (nomark _)) fa_nil)))))
    (fss_cons (fs_if (O' := []) (ft_cmp (op_eqX (u64 hr)) o_eq (fb_of (fe_op op_fdiv o_fdiv (fb_var (i := 1) rfl (by walk_at "VIS")) (fb_of fe_int))) (fb_of fe_int) (nomark _))
      (fss_to (fss_cons (fs_set (i := 2) sc__law_spot.nd rfl (by walk_at "LOC") fe_non)
    fss_nil) (by decide))
      (fss_to fss_nil (by decide)))
    (fss_cons (fs_ret (fe_tup (fa_cons (fe_var (i := 2) rfl (by walk_at "VIS") (by decide)) (fa_cons (fe_cmp (op_eqX (u64 hr)) o_eq (fb_of (fe_op op_mod o_mod (fb_var (i := 1) rfl (by walk_at "VIS")) (fb_of fe_int))) (fb_of fe_int) (nomark _)) fa_nil))))
    fss_nil))))))
theorem cal__law_is_same' (T : TX K mg) : ∀ n : Nat, CalK P w K mg base (1 + n) "_law_is_same" false 2 (m__law_is_same n)
  | 0 => calK_zero (ps := ["_law_got", "_law_due"]) T.d__law_is_same T.g__law_is_same (fun _ _ _ _ _ _ us hl => match us, hl with | [_, _], _ => rfl)
  | n + 1 => by
    have ih := cal__law_is_same' T n
    exact calK_of (ps := ["_law_got", "_law_due"]) (N := N__law_is_same) (T.d__law_is_same) T.g__law_is_same sc__law_is_same rfl rfl (fun _ _ _ _ _ _ us hl => match us, hl with | [_, _], _ => rfl) [] (fun cdv A outer s H E hr =>
    (fss_cons (fs_if (O' := []) (ft_w (fw_or (ft_val (fe_isi (T := "tuple") (by decide) rfl T.z_isinstance (by decide +kernel) rfl T.z_tuple (by decide +kernel) (fb_var (i := 1) rfl (by walk_at "VIS")))) (fw_or1 (ft_val (fe_isi (T := "list") (by decide) rfl T.z_isinstance (by decide +kernel) rfl T.z_list (by decide +kernel) (fb_var (i := 1) rfl (by walk_at "VIS")))))))
      (fss_cons (fs_if (O' := []) (ft_w (fw_and (ft_val (fe_isi (T := "tuple") (by decide) rfl T.z_isinstance (by decide +kernel) rfl T.z_tuple (by decide +kernel) (fb_var (i := 1) rfl (by walk_at "VIS")))) (fw_and1 (ft_not (ft_val (fe_isi (T := "tuple") (by decide) rfl T.z_isinstance (by decide +kernel) rfl T.z_tuple (by decide +kernel) (fb_var (i := 0) rfl (by walk_at "VIS"))))))))
      (fss_cons (fs_ret fe_bl)
    fss_nil)
      (fss_to fss_nil (by decide)))
    (fss_cons (fs_if (O' := []) (ft_w (fw_and (ft_val (fe_isi (T := "list") (by decide) rfl T.z_isinstance (by decide +kernel) rfl T.z_list (by decide +kernel) (fb_var (i := 1) rfl (by walk_at "VIS")))) (fw_and1 (ft_not (ft_val (fe_isi (T := "list") (by decide) rfl T.z_isinstance (by decide +kernel) rfl T.z_list (by decide +kernel) (fb_var (i := 0) rfl (by walk_at "VIS"))))))))
      (fss_cons (fs_ret fe_bl)
    fss_nil)
      (fss_to fss_nil (by decide)))
    (fss_cons (fs_if (O' := []) (ft_cmp (op_neX (u64 hr)) o_ne (fb_of (fe_callB c_len l_len rfl T.z_len (by decide +kernel) (fba_cons (fb_var (i := 0) rfl (by walk_at "VIS")) fba_nil))) (fb_of (fe_callB c_len l_len rfl T.z_len (by decide +kernel) (fba_cons (fb_var (i := 1) rfl (by walk_at "VIS")) fba_nil))) (nomark _))
      (fss_cons (fs_ret fe_bl)
    fss_nil)
      (fss_to fss_nil (by decide)))
    (fss_cons (fs_for PassesOwn.never rfl (fi_rng1 rfl T.z_range (fa_cons (fe_callB c_len l_len rfl T.z_len (by decide +kernel) (fba_cons (fb_var (i := 1) rfl (by walk_at "VIS")) fba_nil)) fa_nil)) (fg_name (i := 2) sc__law_is_same.nd rfl (by walk_at "LOC"))
      (fss_to (fss_cons (fs_if (O' := []) (ft_not (ft_val (fe_call ih hr (Nat.le_refl _) rfl (fa_cons (fe_ix ix_seq o_ix (fb_var (i := 0) rfl (by walk_at "VIS")) (fb_var (i := 2) rfl (by walk_at "VIS")) (fun _ _ => rfl)) (fa_cons (fe_ix ix_seq o_ix (fb_var (i := 1) rfl (by walk_at "VIS")) (fb_var (i := 2) rfl (by walk_at "VIS")) (fun _ _ => rfl)) fa_nil)))))
      (fss_cons (fs_ret fe_bl)
    fss_nil)
      (fss_to fss_nil (by decide)))
    fss_nil) (by decide)))
    (fss_cons (fs_ret fe_bl)
    fss_nil)))))
      (fss_to fss_nil (by decide)))
    (fss_forget [2] (fss_cons (fs_if (O' := []) (ft_cmp op_isX o_is (fb_var (i := 1) rfl (by walk_at "VIS")) (fb_of fe_non) (nomark _))
      (fss_cons (fs_ret (fe_cmp op_isX o_is (fb_var (i := 0) rfl (by walk_at "VIS")) (fb_of fe_non) (nomark _)))
    fss_nil)
      (fss_to fss_nil (by decide)))
    (fss_cons (fs_if (O' := []) (ft_val (fe_isi (T := "bool") (by decide) rfl T.z_isinstance (by decide +kernel) rfl T.z_bool (by decide +kernel) (fb_var (i := 1) rfl (by walk_at "VIS"))))
      (fss_cons (fs_ret (fe_and (fe_isi (T := "bool") (by decide) rfl T.z_isinstance (by decide +kernel) rfl T.z_bool (by decide +kernel) (fb_var (i := 0) rfl (by walk_at "VIS"))) (fe_one (fe_cmp (op_eqX (u64 hr)) o_eq (fb_var (i := 0) rfl (by walk_at "VIS")) (fb_var (i := 1) rfl (by walk_at "VIS")) (nomark _)))))
    fss_nil)
      (fss_to fss_nil (by decide)))
    (fss_cons (fs_if (O' := []) (ft_val (fe_isi (T := "int") (by decide) rfl T.z_isinstance (by decide +kernel) rfl T.z_int (by decide +kernel) (fb_var (i := 1) rfl (by walk_at "VIS"))))
      (fss_cons (fs_ret (fe_and (fe_isi (T := "int") (by decide) rfl T.z_isinstance (by decide +kernel) rfl T.z_int (by decide +kernel) (fb_var (i := 0) rfl (by walk_at "VIS"))) (fe_and (fe_not (fe_isi (T := "bool") (by decide) rfl T.z_isinstance (by decide +kernel) rfl T.z_bool (by decide +kernel) (fb_var (i := 0) rfl (by walk_at "VIS")))) (fe_one (fe_cmp (op_eqX (u64 hr)) o_eq (fb_var (i := 0) rfl (by walk_at "VIS")) (fb_var (i := 1) rfl (by walk_at "VIS")) (nomark _))))))
    fss_nil)
      (fss_to fss_nil (by decide)))
    (fss_cons (fs_ret (fe_and (fe_isi (T := "str") (by decide) rfl T.z_isinstance (by decide +kernel) rfl T.z_str (by decide +kernel) (fb_var (i := 0) rfl (by walk_at "VIS"))) (fe_one (fe_cmp (op_eqX (u64 hr)) o_eq (fb_var (i := 0) rfl (by walk_at "VIS")) (fb_var (i := 1) rfl (by walk_at "VIS")) (nomark _)))))
    fss_nil)))))))
theorem cal__law_is_same (T : TX K mg) : CalK P w K mg base 7 "_law_is_same" false 2 (m__law_is_same 6) := cal__law_is_same' T 6
theorem cal__law_request (T : TX K mg) : CalK P w K mg base 1 "_law_request" false 2 m__law_request := calK_of (ps := ["_law_draw", "_law_width"]) (N := N__law_request) (T.d__law_request) T.g__law_request sc__law_request rfl rfl (fun _ _ _ _ _ _ us hl => match us, hl with | [_, _], _ => rfl) [] (fun cdv A outer s H E hr =>
    (fss_cons (fs_set (i := 2) sc__law_request.nd rfl (by walk_at "LOC") (fe_ix ix_seq o_ix (fb_of fe_str) (fb_of (fe_op op_mod o_mod (fb_of (fe_callTy call_int1 l_int rfl T.z_int (by decide +kernel) (fba_cons (fb_var (i := 0) rfl (by walk_at "VIS")) fba_nil))) (fb_var (i := 1) rfl (by walk_at "VIS")))) (fun _ _ => rfl)))
    (fss_forget [1] (fss_cons (fs_set (i := 3) sc__law_request.nd rfl (by walk_at "LOC") (fe_op op_fdiv o_fdiv (fb_of (fe_callTy call_int1 l_int rfl T.z_int (by decide +kernel) (fba_cons (fb_var (i := 0) rfl (by walk_at "VIS")) fba_nil))) (fb_of fe_int)))
    (fss_forget [0] (fss_cons (fs_set (i := 4) sc__law_request.nd rfl (by walk_at "LOC") (fe_op op_mod o_mod (fb_of (fe_op op_fdiv o_fdiv (fb_var (i := 3) rfl (by walk_at "VIS")) (fb_of fe_int))) (fb_of fe_int)))
    (fss_cons (fs_set (i := 5) sc__law_request.nd rfl (by walk_at "LOC") (fe_tup (fa_cons (fe_var (i := 4) rfl (by walk_at "VIS") (by decide)) (fa_cons (fe_cmp (op_eqX (u64 hr)) o_eq (fb_of (fe_op op_mod o_mod (fb_of (fe_op op_fdiv o_fdiv (fb_var (i := 3) rfl (by walk_at "VIS")) (fb_of fe_int))) (fb_of fe_int))) (fb_of fe_int) (nomark _)) (fa_cons (fe_cmp (op_eqX (u64 hr)) o_eq (fb_of (fe_op op_mod o_mod (fb_of (fe_op op_fdiv o_fdiv (fb_var (i := 3) rfl (by walk_at "VIS")) (fb_of fe_int))) (fb_of fe_int))) (fb_of fe_int) (nomark _)) fa_nil)))))
    (fss_cons (fs_set (i := 6) sc__law_request.nd rfl (by walk_at "LOC") (fe_of_fn (fn_lst (fa_cons (fe_tup (fa_cons fe_str (fa_cons (fe_var (i := 2) rfl (by walk_at "VIS") (by decide)) fa_nil))) (fa_cons (fe_tup (fa_cons fe_str (fa_cons (fe_var (i := 2) rfl (by walk_at "VIS") (by decide)) fa_nil))) (fa_cons (fe_tup (fa_cons fe_str (fa_cons (fe_var (i := 2) rfl (by walk_at "VIS") (by decide)) fa_nil))) (fa_cons (fe_tup (fa_cons fe_str (fa_cons (fe_var (i := 2) rfl (by walk_at "VIS") (by decide)) (fa_cons (fe_var (i := 4) rfl (by walk_at "VIS") (by decide)) fa_nil)))) fa_nil)))))))
    (fss_cons (fs_set (i := 6) sc__law_request.nd rfl (by walk_at "LOC") (fe_op op_addX o_add (fb_var (i := 6) rfl (by walk_at "VIS")) (fb_of (fe_of_fn (fn_lst (fa_cons (fe_tup (fa_cons fe_str (fa_cons (fe_var (i := 2) rfl (by walk_at "VIS") (by decide)) (fa_cons (fe_var (i := 4) rfl (by walk_at "VIS") (by decide)) (fa_cons (fe_ix ix_seq o_ix (fb_var (i := 5) rfl (by walk_at "VIS")) (fb_of fe_int) (fun _ _ => rfl)) (fa_cons (fe_ix ix_seq o_ix (fb_var (i := 5) rfl (by walk_at "VIS")) (fb_of fe_int) (fun _ _ => rfl)) fa_nil)))))) (fa_cons (fe_tup (fa_cons fe_str (fa_cons (fe_var (i := 2) rfl (by walk_at "VIS") (by decide)) (fa_cons (fe_var (i := 4) rfl (by walk_at "VIS") (by decide)) fa_nil)))) fa_nil)))))))
    (fss_cons (fs_set (i := 6) sc__law_request.nd rfl (by walk_at "LOC") (fe_op op_addX o_add (fb_var (i := 6) rfl (by walk_at "VIS")) (fb_of (fe_of_fn (fn_lst (fa_cons (fe_tup (fa_cons fe_str (fa_cons (fe_var (i := 2) rfl (by walk_at "VIS") (by decide)) (fa_cons (fe_var (i := 4) rfl (by walk_at "VIS") (by decide)) (fa_cons (fe_ix ix_seq o_ix (fb_var (i := 5) rfl (by walk_at "VIS")) (fb_of fe_int) (fun _ _ => rfl)) (fa_cons (fe_ix ix_seq o_ix (fb_var (i := 5) rfl (by walk_at "VIS")) (fb_of fe_int) (fun _ _ => rfl)) fa_nil)))))) (fa_cons (fe_tup (fa_cons fe_str (fa_cons (fe_var (i := 2) rfl (by walk_at "VIS") (by decide)) fa_nil))) (fa_cons (fe_cst (by kernel_rfl)) fa_nil))))))))
    (fss_forget [2, 4, 5] (fss_cons (fs_set (i := 7) sc__law_request.nd rfl (by walk_at "LOC") (fe_cst (by kernel_rfl)))
    (fss_cons (fs_if (O' := []) (ft_cmp (op_eqX (u64 hr)) o_eq (fb_of (fe_op op_mod o_mod (fb_of (fe_op op_fdiv o_fdiv (fb_var (i := 3) rfl (by walk_at "VIS")) (fb_of fe_int))) (fb_of fe_int))) (fb_of fe_int) (nomark _))
      (fss_to (fss_cons (fs_set (i := 7) sc__law_request.nd rfl (by walk_at "LOC") (fe_cst (by kernel_rfl)))
    fss_nil) (by decide))
      (fss_to fss_nil (by decide)))
    (fss_cons (fs_ret (fe_ix ix_seq o_ix (fb_of (fe_op op_addX o_add (fb_var (i := 6) rfl (by walk_at "VIS")) (fb_of (fe_of_fn (fn_lst (fa_cons (fe_var (i := 7) rfl (by walk_at "VIS") (by decide)) fa_nil)))))) (fb_of (fe_op op_mod o_mod (fb_var (i := 3) rfl (by walk_at "VIS")) (fb_of fe_int))) (fun _ _ => rfl)))
    fss_nil))))))))))))))
theorem cal__law_does (T : TX K mg) : CalE P w K mg base 3 "_law_does" 3 m__law_does := calE_of (ps := ["_law_fields", "_law_closed", "_law_request_here"]) (N := N__law_does) (T.d__law_does) T.g__law_does sc__law_does rfl rfl (fun _ _ _ _ _ _ us hl => match us, hl with | [_, _, _], _ => rfl) [] (fun cdv A outer s H E hr =>
    (mss_cons (ms_pure (fs_set (i := 3) sc__law_does.nd rfl (by walk_at "LOC") (fe_ix ix_seq o_ix (fb_var (i := 2) rfl (by walk_at "VIS")) (fb_of fe_int) (fun _ _ => rfl))))
    (mss_cons (ms_if (O' := []) (mt_pure (ft_cmp (op_eqX (u64 hr)) o_eq (fb_var (i := 3) rfl (by walk_at "VIS")) (fb_of fe_str) (nomark _)))
      (mss_cons (ms_ret (me_look (fe_callTy call_tuple_of l_tup rfl T.z_tuple (by decide +kernel) (fba_cons (fb_of (fe_of_fn (fn_lstD rfl (fe_var (i := 0) rfl (by walk_at "VIS") (by decide)) rfl T.z_list (by decide +kernel)))) fba_nil))))
    mss_nil)
      (mss_to mss_nil (by decide)))
    (mss_cons (ms_pure (fs_set (i := 4) sc__law_does.nd rfl (by walk_at "LOC") fe_non))
    (mss_cons (ms_if (O' := []) (mt_pure (ft_cmp (op_ninX (u65 hr)) o_nin (fb_var (i := 3) rfl (by walk_at "VIS")) (fb_of (fe_of_fn (fn_lst (fa_cst (by kernel_rfl))))) (by with_unfolding_all rfl)))
      (mss_to (mss_cons (ms_set (i := 4) sc__law_does.nd rfl (by walk_at "LOC") (me_look (fe_dgetN (u64 hr) (fe_var (i := 0) rfl (by walk_at "VIS") (by decide)) (fe_ix ix_seq o_ix (fb_var (i := 2) rfl (by walk_at "VIS")) (fb_of fe_int) (fun _ _ => rfl)))))
    mss_nil) (by decide))
      (mss_to mss_nil (by decide)))
    (mss_forget [3] (mss_cons (ms_set (i := 5) sc__law_does.nd rfl (by walk_at "LOC") (me_lookN (fn_call (cal__law_act T) hr (by decide) rfl (fa_cons (fe_var (i := 4) rfl (by walk_at "VIS") (by decide)) (fa_cons (fe_ix ix_seq o_ix (fb_var (i := 1) rfl (by walk_at "VIS")) (fb_of fe_int) (fun _ _ => rfl)) (fa_cons (fe_var (i := 2) rfl (by walk_at "VIS") (by decide)) fa_nil))))))
    (mss_cons (ms_putI (i := 1) rfl (by walk_at "VIS") (by decide) (me_pure (fe_ix ix_seq o_ix (fb_var (i := 5) rfl (by walk_at "VIS")) (fb_of fe_int) (fun _ _ => rfl))) fe_int)
    (mss_forget [1] (mss_cons (ms_if (O' := []) (mt_pure (ft_w (fw_and (ft_cmp op_isntX o_isnt (fb_of (fe_ix ix_seq o_ix (fb_var (i := 5) rfl (by walk_at "VIS")) (fb_of fe_int) (fun _ _ => rfl))) (fb_of fe_non) (nomark _)) (fw_and1 (ft_cmp (op_neX (u64 hr)) o_ne (fb_var (i := 4) rfl (by walk_at "VIS")) (fb_of (fe_ix ix_seq o_ix (fb_var (i := 5) rfl (by walk_at "VIS")) (fb_of fe_int) (fun _ _ => rfl))) (nomark _))))))
      (mss_to (mss_cons (ms_dput (i := 0) (u64 hr) rfl (by walk_at "VIS") (by decide) (me_pure (fe_ix ix_seq o_ix (fb_var (i := 5) rfl (by walk_at "VIS")) (fb_of fe_int) (fun _ _ => rfl))) (fe_ix ix_seq o_ix (fb_var (i := 2) rfl (by walk_at "VIS")) (fb_of fe_int) (fun _ _ => rfl)))
    mss_nil) (by decide))
      (mss_to mss_nil (by decide)))
    (mss_cons (ms_if (O' := []) (mt_pure (ft_w (fw_and (ft_cmp op_isX o_is (fb_of (fe_ix ix_seq o_ix (fb_var (i := 5) rfl (by walk_at "VIS")) (fb_of fe_int) (fun _ _ => rfl))) (fb_of fe_non) (nomark _)) (fw_and1 (ft_cmp op_isntX o_isnt (fb_var (i := 4) rfl (by walk_at "VIS")) (fb_of fe_non) (nomark _))))))
      (mss_to (mss_cons (ms_dpop (i := 0) rfl (by walk_at "VIS") (by decide) (fe_ix ix_seq o_ix (fb_var (i := 2) rfl (by walk_at "VIS")) (fb_of fe_int) (fun _ _ => rfl)))
    mss_nil) (by decide))
      (mss_to mss_nil (by decide)))
    (mss_forget [0, 2, 4] (mss_cons (ms_pure (fs_ret (fe_ix ix_seq o_ix (fb_var (i := 5) rfl (by walk_at "VIS")) (fb_of fe_int) (fun _ _ => rfl))))
    mss_nil)))))))))))))
theorem cal__law_starts (T : TX K mg) : CalK P w K mg base 2 "_law_starts" false 1 m__law_starts := calK_of (ps := ["_law_draws_here"]) (N := N__law_starts) (T.d__law_starts) T.g__law_starts sc__law_starts rfl rfl (fun _ _ _ _ _ _ us hl => match us, hl with | [_], _ => rfl) [] (fun cdv A outer s H E hr =>
    (fss_cons (fs_setNew (i := 1) sc__law_starts.nd rfl (by walk_at "LOC") (fn_lst fa_nil))
    (fss_cons (fs_for PassesOwn.never rfl (fi_rng1 rfl T.z_range (fa_cons (fe_op op_mod o_mod (fb_of (fe_callTy call_int1 l_int rfl T.z_int (by decide +kernel) (fba_cons (fb_of (fe_ix ix_seq o_ix (fb_var (i := 0) rfl (by walk_at "VIS")) (fb_of fe_int) (fun _ _ => rfl))) fba_nil))) (fb_of fe_int)) fa_nil)) (fg_name (i := 2) sc__law_starts.nd rfl (by walk_at "LOC"))
      (fss_to (fss_cons (fs_set (i := 3) sc__law_starts.nd rfl (by walk_at "LOC") (fe_ix ix_seq o_ix (fb_of (fe_call (cal__law_spot T) hr (by decide) rfl (fa_cons (fe_ix ix_seq o_ix (fb_var (i := 0) rfl (by walk_at "VIS")) (fb_of (fe_op op_addX o_add (fb_of fe_int) (fb_var (i := 2) rfl (by walk_at "VIS")))) (fun _ _ => rfl)) fa_nil))) (fb_of fe_int) (fun _ _ => rfl)))
    (fss_cons (fs_set (i := 4) sc__law_starts.nd rfl (by walk_at "LOC") (fe_ix ix_seq o_ix (fb_of fe_str) (fb_of (fe_op op_mod o_mod (fb_of (fe_callTy call_int1 l_int rfl T.z_int (by decide +kernel) (fba_cons (fb_of (fe_op op_addX o_add (fb_of (fe_op op_fdiv o_fdiv (fb_of (fe_ix ix_seq o_ix (fb_var (i := 0) rfl (by walk_at "VIS")) (fb_of fe_int) (fun _ _ => rfl))) (fb_of fe_int))) (fb_of (fe_op op_mul o_mul (fb_var (i := 2) rfl (by walk_at "VIS")) (fb_of (fe_ix ix_seq o_ix (fb_of (fe_of_fn (fn_lst (fa_cst (by kernel_rfl))))) (fb_of (fe_op op_mod o_mod (fb_of (fe_callTy call_int1 l_int rfl T.z_int (by decide +kernel) (fba_cons (fb_of (fe_op op_fdiv o_fdiv (fb_of (fe_ix ix_seq o_ix (fb_var (i := 0) rfl (by walk_at "VIS")) (fb_of fe_int) (fun _ _ => rfl))) (fb_of fe_int))) fba_nil))) (fb_of fe_int))) (fun _ _ => rfl))))))) fba_nil))) (fb_of fe_int))) (fun _ _ => rfl)))
    (fss_cons (fs_if (O' := [1]) (ft_cmp op_isntX o_isnt (fb_var (i := 3) rfl (by walk_at "VIS")) (fb_of fe_non) (nomark _))
      (fss_to (fss_cons (fs_mut (i := 1) rfl (by walk_at "VIS") (by decide) PySem.F.slot_list_append PySem.F.type_list_append mt_append r_append (fa_cons (fe_tup (fa_cons (fe_var (i := 4) rfl (by walk_at "VIS") (by decide)) (fa_cons (fe_ix ix_seq o_ix (fb_var (i := 3) rfl (by walk_at "VIS")) (fb_of fe_int) (fun _ _ => rfl)) (fa_cons (fe_ix ix_seq o_ix (fb_var (i := 3) rfl (by walk_at "VIS")) (fb_of fe_int) (fun _ _ => rfl)) (fa_cons (fe_ix ix_seq o_ix (fb_var (i := 3) rfl (by walk_at "VIS")) (fb_of fe_int) (fun _ _ => rfl)) fa_nil))))) fa_nil))
    fss_nil) (by decide))
      (fss_to fss_nil (by decide)))
    fss_nil))) (by decide)))
    (fss_forget [0, 2, 3, 4] (fss_cons (fs_frz (O1 := []) (fs_ret (fe_var (i := 1) rfl (by walk_at "VIS") (by decide))) (by decide))
    fss_nil)))))
theorem ok_law (T : TX K mg) {fd : FuncData} (F : FunD K "law" "law" (defArgs s_law) (defBody s_law) (defScope s_law) [] [] (He.ga K "law") fd) : FnOk P w K mg base CX0 8 (He.ga K "law") fd ["_law_script"] (spE K 1 m_law) :=
  fnOk_m (N := N_law) F sc_law rfl rfl [] (fun cdv A outer s H E hr =>
    (mss_cons (ms_pure (fs_set (i := 1) sc_law.nd rfl (by walk_at "LOC") (fe_call (cal__law_starts T) hr (by decide) rfl (fa_cons (fe_call (cal__law_draws T) hr (by decide) rfl (fa_cons (fe_call (cal__law_cell T) hr (by decide) rfl (fa_cons (fe_var (i := 0) rfl (by walk_at "VIS") (by decide)) (fa_cons fe_int fa_nil))) (fa_cons fe_int fa_nil))) fa_nil))))
    (mss_cons (ms_set (i := 2) sc_law.nd rfl (by walk_at "LOC") (me_dict fd_empty))
    (mss_cons (ms_forM PassesOwn.never rfl (mi_pure (fi_list (fe_var (i := 1) rfl (by walk_at "VIS") (by decide)))) (fg_name (i := 3) sc_law.nd rfl (by walk_at "LOC"))
      (mss_to (mss_cons (ms_dput (i := 2) (u64 hr) rfl (by walk_at "VIS") (by decide) (me_pure (fe_tup (fa_cons (fe_ix ix_seq o_ix (fb_var (i := 3) rfl (by walk_at "VIS")) (fb_of fe_int) (fun _ _ => rfl)) (fa_cons (fe_ix ix_seq o_ix (fb_var (i := 3) rfl (by walk_at "VIS")) (fb_of fe_int) (fun _ _ => rfl)) (fa_cons (fe_ix ix_seq o_ix (fb_var (i := 3) rfl (by walk_at "VIS")) (fb_of fe_int) (fun _ _ => rfl)) fa_nil))))) (fe_ix ix_seq o_ix (fb_var (i := 3) rfl (by walk_at "VIS")) (fb_of fe_int) (fun _ _ => rfl)))
    mss_nil) (by decide)))
    (mss_forget [3] (mss_cons (ms_set (i := 4) sc_law.nd rfl (by walk_at "LOC") (me_list (fn_lst (fa_cons fe_bl fa_nil))))
    (mss_cons (ms_set (i := 5) sc_law.nd rfl (by walk_at "LOC") (me_list (fn_callTy call_list_of l_list rfl T.z_list (by decide +kernel) (fba_cons (fb_var (i := 1) rfl (by walk_at "VIS")) fba_nil))))
    (mss_forget [1] (mss_cons (ms_set (i := 6) sc_law.nd rfl (by walk_at "LOC") (me_newM (cal_Thing___init__ T) hr (by decide) rfl (ma_cons (me_pure (fe_var (i := 5) rfl (by walk_at "VIS") (by decide))) ma_nil)))
    (mss_cons (ms_mut0 (i := 5) rfl (by walk_at "VIS") (by decide) PySem.F.slot_list_clear PySem.F.type_list_clear mt_clear r_clear)
    (mss_forget [5] (mss_cons (ms_pure (fs_set (i := 7) sc_law.nd rfl (by walk_at "LOC") (fe_ix ix_seq o_ix (fb_of (fe_of_fn (fn_lst (fa_cst (by kernel_rfl))))) (fb_of (fe_op op_mod o_mod (fb_of (fe_call (cal__law_cell T) hr (by decide) rfl (fa_cons (fe_var (i := 0) rfl (by walk_at "VIS") (by decide)) (fa_cons fe_int fa_nil)))) (fb_of fe_int))) (fun _ _ => rfl))))
    (mss_cons (ms_pure (fs_setNew (i := 8) sc_law.nd rfl (by walk_at "LOC") (fn_lst fa_nil)))
    (mss_cons (ms_forM PassesOwn.never rfl (mi_pure (fi_list (fe_call (cal__law_draws T) hr (by decide) rfl (fa_cons (fe_call (cal__law_cell T) hr (by decide) rfl (fa_cons (fe_var (i := 0) rfl (by walk_at "VIS") (by decide)) (fa_cons fe_int fa_nil))) (fa_cons (fe_op op_mod o_mod (fb_of (fe_op op_fdiv o_fdiv (fb_of (fe_call (cal__law_cell T) hr (by decide) rfl (fa_cons (fe_var (i := 0) rfl (by walk_at "VIS") (by decide)) (fa_cons fe_int fa_nil)))) (fb_of fe_int))) (fb_of fe_int)) fa_nil))))) (fg_name (i := 9) sc_law.nd rfl (by walk_at "LOC"))
      (mss_to (mss_cons (ms_pure (fs_set (i := 10) sc_law.nd rfl (by walk_at "LOC") (fe_call (cal__law_request T) hr (by decide) rfl (fa_cons (fe_var (i := 9) rfl (by walk_at "VIS") (by decide)) (fa_cons (fe_var (i := 7) rfl (by walk_at "VIS") (by decide)) fa_nil)))))
    (mss_cons (ms_set (i := 11) sc_law.nd rfl (by walk_at "LOC") (me_call (cal__law_does T) hr (by decide) rfl (ma_cons (me_pure (fe_var (i := 2) rfl (by walk_at "VIS") (by decide))) (ma_cons (me_pure (fe_var (i := 4) rfl (by walk_at "VIS") (by decide))) (ma_cons (me_pure (fe_var (i := 10) rfl (by walk_at "VIS") (by decide))) ma_nil)))))
    (mss_cons (ms_if (O' := [8]) (mt_not (mt_val (me_callK (cal__law_is_same T) hr (by decide) rfl (ma_cons (me_meth (cal_Thing_ask T) hr (by decide) (fe_var (i := 6) rfl (by walk_at "VIS") (by decide)) (ma_pure (fa_cons (fe_var (i := 10) rfl (by walk_at "VIS") (by decide)) fa_nil))) (ma_cons (me_pure (fe_var (i := 11) rfl (by walk_at "VIS") (by decide))) ma_nil)))))
      (mss_cons (ms_pure (fs_ret fe_bl))
    mss_nil)
      (mss_to mss_nil (by decide)))
    (mss_cons (ms_pure (fs_mut (i := 8) rfl (by walk_at "VIS") (by decide) PySem.F.slot_list_append PySem.F.type_list_append mt_append r_append (fa_cons (fe_tup (fa_cons (fe_var (i := 10) rfl (by walk_at "VIS") (by decide)) (fa_cons (fe_var (i := 11) rfl (by walk_at "VIS") (by decide)) fa_nil))) fa_nil)))
    mss_nil)))) (by decide)))
    (mss_forget [0, 4, 7, 9, 10, 11] (mss_cons (ms_set (i := 12) sc_law.nd rfl (by walk_at "LOC") (me_lookL (fn_prop (cal_Thing_history T) hr (by decide) (fe_var (i := 6) rfl (by walk_at "VIS") (by decide)))))
    (mss_cons (ms_if (O' := [8]) (mt_look (ft_own (L := []) (ft_not (ft_val (fe_call (cal__law_is_same T) hr (by decide) rfl (fa_cons (fe_var (i := 12) rfl (by walk_at "VIS") (by decide)) (fa_cons (fe_var (i := 8) rfl (by walk_at "VIS") (by decide)) fa_nil))))) (by decide)))
      (mss_cons (ms_pure (fs_ret fe_bl))
    mss_nil)
      (mss_to mss_nil (by decide)))
    (mss_cons (ms_mut (i := 12) rfl (by walk_at "VIS") (by decide) PySem.F.slot_list_append PySem.F.type_list_append mt_append r_append (ma_pure (fa_cons fe_non fa_nil)))
    (mss_forget [12] (mss_cons (ms_if (O' := [8]) (mt_not (mt_val (me_callK (cal__law_is_same T) hr (by decide) rfl (ma_cons (me_meth (cal_Thing_ask T) hr (by decide) (fe_var (i := 6) rfl (by walk_at "VIS") (by decide)) (ma_pure (fa_cons (fe_cst (by kernel_rfl)) fa_nil))) (ma_cons (me_look (fe_callTy call_tuple_of l_tup rfl T.z_tuple (by decide +kernel) (fba_cons (fb_of (fe_of_fn (fn_lstD rfl (fe_var (i := 2) rfl (by walk_at "VIS") (by decide)) rfl T.z_list (by decide +kernel)))) fba_nil))) ma_nil)))))
      (mss_cons (ms_pure (fs_ret fe_bl))
    mss_nil)
      (mss_to mss_nil (by decide)))
    (mss_cons (ms_ret (me_look (fe_call (cal__law_is_same T) hr (by decide) rfl (fa_cons (fe_of_fn (fn_prop (cal_Thing_history T) hr (by decide) (fe_var (i := 6) rfl (by walk_at "VIS") (by decide)))) (fa_cons (fe_op op_addX o_add (fb_var (i := 8) rfl (by walk_at "VIS")) (fb_of (fe_of_fn (fn_lst (fa_cons (fe_tup (fa_cons (fe_cst (by kernel_rfl)) (fa_cons (fe_callTy call_tuple_of l_tup rfl T.z_tuple (by decide +kernel) (fba_cons (fb_of (fe_of_fn (fn_lstD rfl (fe_var (i := 2) rfl (by walk_at "VIS") (by decide)) rfl T.z_list (by decide +kernel)))) fba_nil)) fa_nil))) fa_nil))))) fa_nil)))))
    mss_nil)))))))))))))))))))))
end
end LW
namespace LW
open PySem FL
/-! ### plain things: deeds -/
abbrev letters : List Str := (["a", "b", "c", "d", "e", "f", "g", "h"] : List String).map Str.ofString
abbrev Fl := Int × Bool × Bool
def fD : Option Fl → D | none => .non | some (v, c, g) => .tup [.int v, .bl c, .bl g]
inductive IsReq : D → Option Str → Prop
  | look (L : Str) : L ∈ letters → IsReq (.tup [.str "look", .str L]) (some L)
  | has (L : Str) : L ∈ letters → IsReq (.tup [.str "has", .str L]) (some L)
  | get (L : Str) : L ∈ letters → IsReq (.tup [.str "get", .str L]) (some L)
  | set (L : Str) (w : Int) : L ∈ letters → IsReq (.tup [.str "set", .str L, .int w]) (some L)
  | define (L : Str) (w : Int) (c g : Bool) : L ∈ letters → IsReq (.tup [.str "define", .str L, .int w, .bl c, .bl g]) (some L)
  | take (L : Str) : L ∈ letters → IsReq (.tup [.str "take", .str L]) (some L)
  | shut : IsReq (.tup [.str "shut"]) none
  | isshut : IsReq (.tup [.str "isshut"]) none
def nmD : Option Str → D | none => .non | some L => .str L
/-- what a deed does -/
structure Act (r : D) (fo : Option Fl) (sh : Bool) (ans : D) (fo' : Option Fl) (sh' : Bool) : Prop where
  p : m_act [.tup [fD fo, .bl sh], r] = some (.tup [ans, .tup [fD fo', .bl sh']])
  l : m__law_act [fD fo, .bl sh, r] = some (.lst [ans, fD fo', .bl sh'])
  ok : okS 4 ans = true
  ni : noIns ans = true
def doneB (F : D) (s : Bool) (w : Int) (c2 g2 : Bool) : Bool := match F with
  | .tup [.int v, .bl c, .bl g] => g || (!g2 && (c || deq (.tup [.int v, .bl c, .bl g]) (.tup [.int w, .bl c2, .bl g2])))
  | _ => !s
section
variable (fo : Option Fl) (s : Bool) (L : Str) (w : Int) (c2 g2 : Bool)
theorem done_eq : m__is_done [fD fo, .bl s, .tup [.str "define", .str L, .int w, .bl c2, .bl g2]] = some (.bl (doneB (fD fo) s w c2 g2)) := by
  rcases fo with _ | ⟨v, c, g⟩
  · kernel_rfl
  · cases g
    · cases g2
      · cases c <;> kernel_rfl
      · kernel_rfl
    · kernel_rfl
theorem defines_eq : m__law_defines [fD fo, .bl s, .tup [.int w, .bl c2, .bl g2]] = some (.bl (doneB (fD fo) s w c2 g2)) := by
  rcases fo with _ | ⟨v, c, g⟩
  · kernel_rfl
  · cases g
    · cases g2
      · cases c <;> kernel_rfl
      · kernel_rfl
    · kernel_rfl
theorem adef_eq : m_act [.tup [fD fo, .bl s], .tup [.str "define", .str L, .int w, .bl c2, .bl g2]] = some (.tup [.bl (doneB (fD fo) s w c2 g2), .tup [fD (if doneB (fD fo) s w c2 g2 = true then some (w, c2, g2) else fo), .bl s]]) := by
  refine runD_rt ?_
  unfold G_act
  refine seq_asg (d := .tup [fD fo, .bl s]) (ρ' := [some (.tup [fD fo, .bl s]), some (.tup [.str "define", .str L, .int w, .bl c2, .bl g2]), some (fD fo), some (.bl s), none]) rfl rfl ?_
  refine seq_set (d := .str "define") rfl ?_
  refine seq_t (by kernel_rfl) (seq_as ?_)
  have h := done_eq fo s L w c2 g2
  refine seq_if (b := !(doneB (fD fo) s w c2 g2)) (not_val (tB_val (eL_val (ds := [fD fo, .bl s, .tup [.str "define", .str L, .int w, .bl c2, .bl g2]]) rfl (mL_val rfl h)) rfl)) (fun hb => ?_) (fun hb => ?_)
  · have hb' : doneB (fD fo) s w c2 g2 = false := by simpa using hb
    rw [hb']
    exact seq_as (seq_ret rfl)
  · have hb' : doneB (fD fo) s w c2 g2 = true := by simpa using hb
    rw [hb']
    exact seq_nil (seq_as (seq_ret (by kernel_rfl)))
theorem ldef_eq : m__law_act [fD fo, .bl s, .tup [.str "define", .str L, .int w, .bl c2, .bl g2]] = some (.lst [.bl (doneB (fD fo) s w c2 g2), fD (if doneB (fD fo) s w c2 g2 = true then some (w, c2, g2) else fo), .bl s]) := by
  refine runD_rt ?_
  unfold G__law_act
  refine seq_set (d := .str "define") rfl ?_
  refine seq_f (by kernel_rfl) (seq_nil (seq_f (by kernel_rfl) (seq_nil (seq_f (by kernel_rfl) (seq_nil (seq_f (by kernel_rfl) (seq_nil (seq_f (by kernel_rfl) (seq_nil (seq_f (by kernel_rfl) (seq_nil (seq_f (by kernel_rfl) (seq_nil (seq_fg ?_))))))))))))))
  refine seq_set (d := .tup [.int w, .bl c2, .bl g2]) rfl (seq_fg ?_)
  have h := defines_eq fo s w c2 g2
  refine seq_if (b := doneB (fD fo) s w c2 g2) (tB_val (eL_val (ds := [fD fo, .bl s, .tup [.int w, .bl c2, .bl g2]]) rfl (mL_val rfl h)) rfl) (fun hb => ?_) (fun hb => ?_)
  · rw [hb]
    exact seq_as (seq_ret rfl)
  · rw [hb]
    exact seq_nil (seq_fg (seq_ret rfl))
end
theorem okS_fD (fo : Option Fl) : okS 4 (fD fo) = true := by rcases fo with _ | ⟨v, c, g⟩ <;> rfl
theorem noIn_fD (fo : Option Fl) : noIns (fD fo) = true := by rcases fo with _ | ⟨v, c, g⟩ <;> rfl
theorem act_of {r : D} {nm : Option Str} (h : IsReq r nm) (fo : Option Fl) (sh : Bool) : ∃ ans fo' sh', Act r fo sh ans fo' sh' ∧ (nm = none → fo' = fo) := by
  cases h with
  | look L _ => exact ⟨fD fo, fo, sh, ⟨by kernel_rfl, by kernel_rfl, okS_fD fo, noIn_fD fo⟩, fun _ => rfl⟩
  | has L _ => exact ⟨.bl fo.isSome, fo, sh, ⟨by rcases fo with _ | ⟨v, c, g⟩ <;> kernel_rfl, by rcases fo with _ | ⟨v, c, g⟩ <;> kernel_rfl, rfl, rfl⟩, fun _ => rfl⟩
  | get L _ =>
    rcases fo with _ | ⟨v, c, g⟩
    · exact ⟨.non, none, sh, ⟨by kernel_rfl, by kernel_rfl, rfl, rfl⟩, fun _ => rfl⟩
    · exact ⟨.int v, some (v, c, g), sh, ⟨by kernel_rfl, by kernel_rfl, rfl, rfl⟩, fun _ => rfl⟩
  | set L w _ =>
    rcases fo with _ | ⟨v, c, g⟩
    · cases sh
      · exact ⟨.bl true, some (w, true, true), false, ⟨by kernel_rfl, by kernel_rfl, rfl, rfl⟩, fun z => nomatch z⟩
      · exact ⟨.bl false, none, true, ⟨by kernel_rfl, by kernel_rfl, rfl, rfl⟩, fun z => nomatch z⟩
    · cases c
      · exact ⟨.bl false, some (v, false, g), sh, ⟨by kernel_rfl, by kernel_rfl, rfl, rfl⟩, fun z => nomatch z⟩
      · exact ⟨.bl true, some (w, true, g), sh, ⟨by kernel_rfl, by kernel_rfl, rfl, rfl⟩, fun z => nomatch z⟩
  | define L w c g _ => exact ⟨_, _, sh, ⟨adef_eq fo sh L w c g, ldef_eq fo sh L w c g, rfl, rfl⟩, fun z => nomatch z⟩
  | take L _ =>
    rcases fo with _ | ⟨v, c, g⟩
    · exact ⟨.bl true, none, sh, ⟨by kernel_rfl, by kernel_rfl, rfl, rfl⟩, fun z => nomatch z⟩
    · cases g
      · exact ⟨.bl false, some (v, c, false), sh, ⟨by kernel_rfl, by kernel_rfl, rfl, rfl⟩, fun z => nomatch z⟩
      · exact ⟨.bl true, none, sh, ⟨by kernel_rfl, by kernel_rfl, rfl, rfl⟩, fun z => nomatch z⟩
  | shut => exact ⟨.bl true, fo, true, ⟨by kernel_rfl, by kernel_rfl, rfl, rfl⟩, fun _ => rfl⟩
  | isshut => exact ⟨.bl sh, fo, sh, ⟨by kernel_rfl, by kernel_rfl, rfl, rfl⟩, fun _ => rfl⟩
theorem req_ne {r : D} {nm : Option Str} (h : IsReq r nm) : eqD r (.tup [.str "names"]) = some (.bl false) := by
  cases h with
  | look L h | has L h | get L h | take L h | set L w h | define L w c g h =>
    simp only [letters, List.map_cons, List.map_nil, List.mem_cons, List.not_mem_nil, or_false] at h
    rcases h with rfl | rfl | rfl | rfl | rfl | rfl | rfl | rfl <;> kernel_rfl
  | shut => kernel_rfl
  | isshut => kernel_rfl
theorem req_tup {r : D} {nm : Option Str} (h : IsReq r nm) : ∃ k xs, r = .tup (.str k :: xs) := by
  cases h <;> exact ⟨_, _, rfl⟩
theorem req_nm {r : D} {nm : Option Str} (h : IsReq r nm) : ∀ L, nm = some L → L ∈ letters := by
  cases h <;> intro L' e <;> cases e <;> assumption
theorem req_ok {r : D} {nm : Option Str} (h : IsReq r nm) : okS 4 r = true ∧ noIns r = true := by
  cases h <;> exact ⟨rfl, rfl⟩
/-! ### dicts of fields, as lists -/
abbrev FL2 := List (Str × Fl)
def ksL (L : FL2) : List Str := L.map (·.1)
def xsL (L : FL2) : List D := L.map fun p => fD (some p.2)
def fnd (k : Str) : FL2 → Option Fl
  | [] => none
  | p :: t => if p.1 = k then some p.2 else fnd k t
def ins (k : Str) (f : Fl) (L : FL2) : FL2 := if (fnd k L).isSome = true then L.map (fun p => if p.1 = k then (p.1, f) else p) else L ++ [(k, f)]
def del (k : Str) : FL2 → FL2
  | [] => []
  | p :: t => if p.1 = k then del k t else p :: del k t
def updL (k : Str) (fo : Option Fl) (L : FL2) : FL2 := match fo with | some f => ins k f L | none => del k L
theorem len_L (L : FL2) : (ksL L).length = (xsL L).length := by simp [ksL, xsL]
theorem dget_L (k : Str) : ∀ L : FL2, dget k (ksL L) (xsL L) = (fnd k L).map fun f => fD (some f)
  | [] => rfl
  | p :: t => by
    show (if p.1 = k then some (fD (some p.2)) else dget k (ksL t) (xsL t)) = (if p.1 = k then some p.2 else fnd k t).map _
    rw [dget_L k t]
    split <;> rfl
theorem dhas_L (k : Str) : ∀ L : FL2, dhas k (ksL L) = (fnd k L).isSome
  | [] => rfl
  | p :: t => by
    show (if p.1 = k then true else dhas k (ksL t)) = (if p.1 = k then some p.2 else fnd k t).isSome
    rw [dhas_L k t]
    split <;> rfl
theorem ksL_map (k : Str) (f : Fl) : ∀ L : FL2, ksL (L.map fun p => if p.1 = k then (p.1, f) else p) = ksL L
  | [] => rfl
  | p :: t => by
    show (if p.1 = k then (p.1, f) else p).1 :: ksL (t.map _) = p.1 :: ksL t
    rw [ksL_map k f t]
    split <;> rfl
theorem xsL_map (k : Str) (f : Fl) : ∀ L : FL2, xsL (L.map fun p => if p.1 = k then (p.1, f) else p) = rplX k (fD (some f)) (ksL L) (xsL L)
  | [] => rfl
  | p :: t => by
    show fD (some (if p.1 = k then (p.1, f) else p).2) :: xsL (t.map _) = (if p.1 = k then fD (some f) else fD (some p.2)) :: rplX k (fD (some f)) (ksL t) (xsL t)
    rw [xsL_map k f t]
    split <;> rfl
theorem dputK_L (k : Str) (f : Fl) (L : FL2) : dputK (ksL L) k = ksL (ins k f L) := by
  unfold dputK ins
  rw [dhas_L]
  split
  · rw [ksL_map]
  · simp [ksL]
theorem dputX_L (k : Str) (f : Fl) (L : FL2) : dputX k (fD (some f)) (ksL L) (xsL L) = xsL (ins k f L) := by
  unfold dputX ins
  rw [dhas_L]
  split
  · rw [xsL_map]
  · simp [xsL]
theorem ddelK_L (k : Str) : ∀ L : FL2, ddelK k (ksL L) = ksL (del k L)
  | [] => rfl
  | p :: t => by
    show (if p.1 = k then ddelK k (ksL t) else p.1 :: ddelK k (ksL t)) = ksL (if p.1 = k then del k t else p :: del k t)
    rw [ddelK_L k t]
    split <;> rfl
theorem ddelX_L (k : Str) : ∀ L : FL2, ddelX k (ksL L) (xsL L) = xsL (del k L)
  | [] => rfl
  | p :: t => by
    show (if p.1 = k then ddelX k (ksL t) (xsL t) else fD (some p.2) :: ddelX k (ksL t) (xsL t)) = xsL (if p.1 = k then del k t else p :: del k t)
    rw [ddelX_L k t]
    split <;> rfl
theorem fnd_mem {k : Str} : ∀ {L : FL2}, (fnd k L).isSome = true ↔ k ∈ ksL L
  | [] => by simp [fnd, ksL]
  | p :: t => by
    have ih := fnd_mem (k := k) (L := t)
    show (if p.1 = k then some p.2 else fnd k t).isSome = true ↔ k ∈ p.1 :: ksL t
    by_cases h : p.1 = k
    · simp [h]
    · rw [if_neg h, ih]; simp [Ne.symm h]
theorem nodup_ins {k : Str} {f : Fl} {L : FL2} (h : (ksL L).Nodup) : (ksL (ins k f L)).Nodup := by
  unfold ins
  split
  · rw [ksL_map]; exact h
  · rename_i hn
    have : k ∉ ksL L := fun z => hn (fnd_mem.mpr z)
    have e : ksL (L ++ [(k, f)]) = ksL L ++ [k] := by simp [ksL]
    rw [e, List.nodup_append]
    exact ⟨h, by simp, fun a ha b hb => by simp at hb; subst hb; rintro rfl; exact this ha⟩
theorem sub_del {k : Str} : ∀ (L : FL2) {a : Str}, a ∈ ksL (del k L) → a ∈ ksL L
  | [], _, h => h
  | p :: t, a, h => by
    have h' : a ∈ ksL (if p.1 = k then del k t else p :: del k t) := h
    split at h'
    · exact .tail _ (sub_del t h')
    · rcases List.mem_cons.mp (show a ∈ p.1 :: ksL (del k t) from h') with rfl | h'
      · exact .head _
      · exact .tail _ (sub_del t h')
theorem nodup_del {k : Str} : ∀ {L : FL2}, (ksL L).Nodup → (ksL (del k L)).Nodup
  | [], h => h
  | p :: t, h => by
    have h2 := List.nodup_cons.mp (show (p.1 :: ksL t).Nodup from h)
    show (ksL (if p.1 = k then del k t else p :: del k t)).Nodup
    split
    · exact nodup_del h2.2
    · exact List.nodup_cons.mpr ⟨fun z => h2.1 (sub_del t z), nodup_del h2.2⟩
theorem len_ins {k : Str} {f : Fl} {L : FL2} : (ins k f L).length ≤ L.length + 1 := by
  unfold ins
  split <;> simp
theorem len_del {k : Str} : ∀ (L : FL2), (del k L).length ≤ L.length
  | [] => Nat.le_refl _
  | p :: t => by
    have := len_del (k := k) t
    show (if p.1 = k then del k t else p :: del k t).length ≤ _
    split <;> simp <;> omega
theorem nodup_upd {k : Str} {fo : Option Fl} {L : FL2} (h : (ksL L).Nodup) : (ksL (updL k fo L)).Nodup := by
  cases fo with
  | none => exact nodup_del h
  | some f => exact nodup_ins h
theorem len_upd {k : Str} {fo : Option Fl} {L : FL2} : (updL k fo L).length ≤ L.length + 1 := by
  cases fo with
  | none => have := len_del (k := k) L; show (del k L).length ≤ _; omega
  | some f => exact len_ins
theorem ins_same {k : Str} {f : Fl} : ∀ {L : FL2}, (ksL L).Nodup → fnd k L = some f → ins k f L = L := by
  intro L hn h
  unfold ins
  rw [if_pos (by rw [h]; rfl)]
  have key : ∀ {L : FL2}, (ksL L).Nodup → (k ∈ ksL L → fnd k L = some f) → L.map (fun p => if p.1 = k then (p.1, f) else p) = L := by
    intro L
    induction L with
    | nil => intros; rfl
    | cons p t ih =>
      intro hn h
      have h2 := List.nodup_cons.mp (show (p.1 :: ksL t).Nodup from hn)
      rw [List.map_cons]
      by_cases e : p.1 = k
      · have e2 : (if p.1 = k then some p.2 else fnd k t) = some f := h (by show k ∈ p.1 :: ksL t; rw [e]; exact .head _)
        rw [if_pos e] at e2
        have : p.2 = f := Option.some.inj e2
        rw [if_pos e, ih h2.2 fun z => absurd (e ▸ z) h2.1, ← this]
      · rw [if_neg e, ih h2.2 fun z => by
          have e2 : (if p.1 = k then some p.2 else fnd k t) = some f := h (.tail _ z)
          rw [if_neg e] at e2
          exact e2]
  exact key hn fun _ => h
theorem del_none {k : Str} : ∀ {L : FL2}, fnd k L = none → del k L = L
  | [], _ => rfl
  | p :: t, h => by
    have h' : (if p.1 = k then some p.2 else fnd k t) = none := h
    show (if p.1 = k then del k t else p :: del k t) = _
    by_cases e : p.1 = k
    · rw [if_pos e] at h'; cases h'
    · rw [if_neg e] at h' ⊢
      rw [del_none h']
theorem dmrgK_id : ∀ (ks ka : List Str), (ka ++ ks).Nodup → dmrgK ks ka = ka ++ ks
  | [], ka, _ => by simp [dmrgK]
  | g :: gs, ka, h => by
    have hg : ¬ dhas g ka = true := fun z => by
      rw [List.nodup_append] at h
      exact h.2.2 g (dhas_mem.mp z) g (.head _) rfl
    show dmrgK gs (dputK ka g) = _
    have e : dputK ka g = ka ++ [g] := by unfold dputK; rw [if_neg hg]
    rw [e, dmrgK_id gs (ka ++ [g]) (by simpa using h)]
    simp
theorem dmrgX_id {α : Type} : ∀ (ks : List Str) (xs : List α) (ka : List Str) (xa : List α), (ka ++ ks).Nodup → ks.length = xs.length → dmrgX ks xs ka xa = xa ++ xs
  | [], [], ka, xa, _, _ => by simp [dmrgX]
  | [], _ :: _, _, _, _, h => by simp at h
  | _ :: _, [], _, _, _, h => by simp at h
  | g :: gs, x :: xs, ka, xa, h, hl => by
    have hg : ¬ dhas g ka = true := fun z => by
      rw [List.nodup_append] at h
      exact h.2.2 g (dhas_mem.mp z) g (.head _) rfl
    show dmrgX gs xs (dputK ka g) (dputX g x ka xa) = _
    have e : dputK ka g = ka ++ [g] := by unfold dputK; rw [if_neg hg]
    have e2 : dputX g x ka xa = xa ++ [x] := by unfold dputX; rw [if_neg hg]
    rw [e, e2, dmrgX_id gs xs (ka ++ [g]) (xa ++ [x]) (by simpa using h) (by simpa using hl)]
    simp
theorem dget_at {k : Str} {f : Fl} {L : FL2} (hn : (ksL L).Nodup) (h : (k, f) ∈ L) : dget k (ksL L) (xsL L) = some (fD (some f)) := by
  rw [dget_L]
  have : fnd k L = some f := by
    induction L with
    | nil => cases h
    | cons p t ih =>
      have h2 := List.nodup_cons.mp (show (p.1 :: ksL t).Nodup from hn)
      show (if p.1 = k then some p.2 else fnd k t) = some f
      rcases List.mem_cons.mp h with rfl | h'
      · rw [if_pos rfl]
      · have : p.1 ≠ k := fun e => h2.1 (by rw [e]; exact List.mem_map.mpr ⟨_, h', rfl⟩)
        rw [if_neg this, ih h2.2 h']
  rw [this]; rfl
theorem wf_loop {k : Str} {L : FL2} (hL : (ksL L).Nodup) {x2 : Option D} : ∀ (T : FL2) (pk : List Str) (px : List D), (pk ++ ksL T).Nodup → pk.length + T.length < 1000 → (∀ p ∈ T, p ∈ L) →
    dcL (gSet 3) (FL.tB blD (FL.e2 neD (eVar 3) (eVar 1))) (eVar 3) (FL.e2 dgetD (eVar 0) (eVar 3)) [some (.dct (ksL L) (xsL L)), some (.str k), x2, none] ((ksL T).map D.str) pk px = some (pk ++ ksL (del k T), px ++ xsL (del k T))
  | [], pk, px, _, _, _ => by simp [ksL, xsL, del, dcL]
  | p :: t, pk, px, hn, hl, hm => by
    show dcL _ _ _ _ _ (.str p.1 :: (ksL t).map D.str) pk px = _
    unfold dcL
    have e1 : gSet 3 (.str p.1) [some (.dct (ksL L) (xsL L)), some (.str k), x2, none] = some [some (.dct (ksL L) (xsL L)), some (.str k), x2, some (.str p.1)] := rfl
    rw [e1]
    dsimp only
    have e2 : FL.tB blD (FL.e2 neD (eVar 3) (eVar 1)) [some (.dct (ksL L) (xsL L)), some (.str k), x2, some (.str p.1)] = some (!decide (p.1 = k)) := by
      refine tB_val (x := .bl (!decide (p.1 = k))) (e2_val (x := .str p.1) (y := .str k) rfl rfl ?_) rfl
      show (match eqB (.str p.1) (.str k) with | some b => some (D.bl (!b)) | none => none) = _
      show some (D.bl (!FL.sEq p.1 k)) = _
      rw [FL.sEq_eq]
    rw [e2]
    have hn2 := hn
    have e0 : pk ++ ksL (p :: t) = pk ++ p.1 :: ksL t := rfl
    rw [e0] at hn2
    by_cases h : p.1 = k
    · rw [show (!decide (p.1 = k)) = false from by simp [h]]
      dsimp only
      have e3 : del k (p :: t) = del k t := by show (if p.1 = k then del k t else p :: del k t) = _; rw [if_pos h]
      rw [e3]
      refine wf_loop hL t pk px ?_ (by simp at hl; omega) fun q hq => hm q (.tail _ hq)
      exact (List.nodup_append.mp hn2).1 |> fun a => by
        rw [List.nodup_append] at hn2 ⊢
        exact ⟨hn2.1, (List.nodup_cons.mp hn2.2.1).2, fun a ha b hb => hn2.2.2 a ha b (.tail _ hb)⟩
    · rw [show (!decide (p.1 = k)) = true from by simp [h]]
      dsimp only
      have e3 : del k (p :: t) = p :: del k t := by show (if p.1 = k then del k t else p :: del k t) = _; rw [if_neg h]
      rw [e3]
      rw [show eVar 3 [some (.dct (ksL L) (xsL L)), some (.str k), x2, some (.str p.1)] = some (.str p.1) from rfl]
      dsimp only
      rw [show FL.e2 dgetD (eVar 0) (eVar 3) [some (.dct (ksL L) (xsL L)), some (.str k), x2, some (.str p.1)] = some (fD (some p.2)) from e2_val (x := .dct (ksL L) (xsL L)) (y := .str p.1) rfl rfl (dget_at hL (hm p (.head _)))]
      dsimp only
      rw [if_pos (by simp at hl; omega)]
      have hg : ¬ dhas p.1 pk = true := fun z => by
        rw [List.nodup_append] at hn2
        exact hn2.2.2 p.1 (dhas_mem.mp z) p.1 (.head _) rfl
      have f1 : dputK pk p.1 = pk ++ [p.1] := by unfold dputK; rw [if_neg hg]
      have f2 : dputX p.1 (fD (some p.2)) pk px = px ++ [fD (some p.2)] := by unfold dputX; rw [if_neg hg]
      rw [f1, f2, wf_loop hL t (pk ++ [p.1]) (px ++ [fD (some p.2)]) (by simpa using hn2) (by simp at hl ⊢; omega) fun q hq => hm q (.tail _ hq)]
      simp [ksL, xsL]
theorem with_field {k : Str} {fo : Option Fl} {L : FL2} (hL : (ksL L).Nodup) (hl : L.length < 500) : m__with_field [.dct (ksL L) (xsL L), .str k, fD fo] = some (.dct (ksL (updL k fo L)) (xsL (updL k fo L))) := by
  refine runD_rt ?_
  unfold G__with_field
  cases fo with
  | none =>
    refine seq_t (by rfl) (seq_as (seq_ret ?_))
    unfold eDcK
    show (match dcL (gSet 3) (FL.tB blD (FL.e2 neD (eVar 3) (eVar 1))) (eVar 3) (FL.e2 dgetD (eVar 0) (eVar 3)) [some (.dct (ksL L) (xsL L)), some (.str k), some .non, none] ((ksL L).map D.str) [] [] with | some (ks, xs) => some (D.dct ks xs) | none => none) = _
    rw [wf_loop hL L [] [] (by simpa using hL) (by simp; omega) fun p hp => hp]
    rfl
  | some f =>
    obtain ⟨v, c, g⟩ := f
    refine seq_f (by rfl) (seq_nil (seq_ret ?_))
    unfold eStarD
    show (if (ksL L).length < 1000 then some (D.dct (dputK (dmrgK (ksL L) []) k) (dputX k (fD (some (v, c, g))) (dmrgK (ksL L) []) (dmrgX (ksL L) (xsL L) [] []))) else none) = _
    rw [if_pos (by simp [ksL]; omega), dmrgK_id (ksL L) [] (by simpa using hL), dmrgX_id (ksL L) (xsL L) [] [] (by simpa using hL) (len_L L), List.nil_append, List.nil_append, dputK_L k (v, c, g), dputX_L]
    rfl
/-! ### a plain thing -/
def th (j : Nat) (L : FL2) (sh : Bool) : Ob := ⟨.ins, "Thing", ["_history", "_fields", "_shut"], [.obj j, .dct (ksL L) (xsL L), .bl sh]⟩
def hi (hs : List D) : Ob := ⟨.lst, "", [], hs⟩
def thD (hs : List D) (L : FL2) (sh : Bool) : D := .ins "Thing" ["_history", "_fields", "_shut"] [.lst hs, .dct (ksL L) (xsL L), .bl sh]
def EvT (hs : List D) : Prop := ∀ h ∈ hs, ∃ xs, h = .tup xs
theorem map_shd {S : List Ob} {n : Nat} : ∀ {hs : List D}, EvT hs → hs.map (shd S n) = hs
  | [], _ => rfl
  | h :: hs, e => by
    obtain ⟨xs, rfl⟩ := e h (.head _)
    have ih := map_shd (S := S) (n := n) (hs := hs) fun x hx => e x (.tail _ hx)
    rw [List.map_cons, ih]
    cases n <;> rfl
section
variable {S : List Ob} {i j : Nat} {L : FL2} {sh : Bool} {hs : List D} {r : D} {nm : Option Str}
theorem shd_thing (h1 : S[i]? = some (th j L sh)) (h2 : S[j]? = some (hi hs)) (he : EvT hs) : shE S (some (.obj i)) = some (thD hs L sh) := by
  show some (shd S 6 (.obj i)) = _
  unfold shd
  rw [h1]
  show some (D.ins "Thing" ["_history", "_fields", "_shut"] ([D.obj j, .dct (ksL L) (xsL L), .bl sh].map (shd S 5))) = _
  have e : shd S 5 (.obj j) = .lst hs := by
    unfold shd
    rw [h2]
    show D.lst (hs.map (shd S 4)) = _
    rw [map_shd he]
  simp only [List.map_cons, List.map_nil, e]
  rfl
theorem w_putA {c f : Str} {F1 : FL.Env → List Ob → Option (D × List Ob)} {Fo : FL.Env → Option D} {G : FL.Env → List Ob → Option MOut} {ρ : FL.Env} {S1 : List Ob} {d : D} {t : Nat} {o : Option MOut} {ob : Ob} (h1 : F1 ρ S = some (d, S1)) (h2 : Fo ρ = some (.obj t)) (h3 : S1[t]? = some ob) (h4 : ob.k = .ins ∧ ob.c = c ∧ ob.fs.length < 1000) (k : G ρ (S1.set t ⟨ob.k, ob.c, putAK ob.fs f, putAX f d ob.fs ob.xs⟩) = o) : mSeq (mPutA c f Fo F1) G ρ S = o := by
  unfold mSeq mPutA
  rw [h1]
  dsimp only
  rw [h2]
  dsimp only
  rw [h3]
  dsimp only
  rw [if_pos h4]
  have e : putA S1 t f d = S1.set t ⟨ob.k, ob.c, putAK ob.fs f, putAX f d ob.fs ob.xs⟩ := by unfold putA; rw [h3]
  rw [e]
  exact k
theorem w_asg {F1 : FL.Env → List Ob → Option (D × List Ob)} {g : D → FL.Env → Option FL.Env} {G : FL.Env → List Ob → Option MOut} {ρ ρ' : FL.Env} {S1 : List Ob} {d : D} {o : Option MOut} (h1 : F1 ρ S = some (d, S1)) (h2 : g d ρ = some ρ') (k : G ρ' S1 = o) : mSeq (mAsg g F1) G ρ S = o := by
  unfold mSeq mAsg
  rw [h1]
  dsimp only
  rw [h2]
  exact k
theorem w_mutE {M0 : FL.Env → List Ob → Option (D × List Ob)} {A2 : FL.Env → List Ob → Option (List D × List Ob)} {f : List D → List D → Option (List D)} {G : FL.Env → List Ob → Option MOut} {ρ : FL.Env} {S0 S1 : List Ob} {o : Option MOut} {t : Nat} {ob ob1 : Ob} {ds ys : List D} (h0 : M0 ρ S = some (.obj t, S0)) (h2 : S0[t]? = some ob) (h3 : ob.k = .lst) (h4 : A2 ρ S0 = some (ds, S1)) (h5 : S1[t]? = some ob1) (h6 : ob1.k = .lst) (h7 : f ob1.xs ds = some ys) (k : G ρ (setL S1 t ys) = o) : mSeq (mMutE M0 f A2) G ρ S = o := by
  unfold mSeq mMutE
  rw [h0]
  dsimp only
  rw [h2]
  dsimp only
  rw [if_pos h3, h4]
  dsimp only
  rw [h5]
  dsimp only
  rw [if_pos h6, h7]
  exact k
theorem qLk_val {F : FL.Env → Option D} {ρ : FL.Env} {d : D} (h : F (ρ.map (shE S)) = some d) (hn : noIns d = true) : qLk F ρ S = some (d, S) := by
  unfold qLk
  rw [h]
  dsimp only
  rw [if_pos hn]
theorem qTl_val {T : FL.Env → Option Bool} {ρ : FL.Env} {b : Bool} (h : T (ρ.map (shE S)) = some b) : qTl T ρ S = some (b, S) := by
  unfold qTl
  rw [h]
theorem qLkN_val {F : FL.Env → Option D} {ρ : FL.Env} {xs : List D} (h : F (ρ.map (shE S)) = some (.lst xs)) (hn : noInss xs = true) : qLkN F ρ S = some (.lst xs, S) := by
  unfold qLkN
  rw [h]
  dsimp only
  rw [if_pos hn]
theorem qLkL_val {F : FL.Env → Option D} {ρ : FL.Env} {xs : List D} (h : F (ρ.map (shE S)) = some (.lst xs)) (hn : noInss xs = true) : qLkL F ρ S = some (.obj S.length, S ++ [⟨.lst, "", [], xs⟩]) := by
  unfold qLkL
  rw [h]
  dsimp only
  rw [if_pos hn]
theorem qLkD_val {F : FL.Env → Option D} {ρ : FL.Env} {ks : List Str} {xs : List D} (h : F (ρ.map (shE S)) = some (.dct ks xs)) (hn : noInss xs = true) : qLkD F ρ S = some (.dct ks xs, S) := by
  unfold qLkD
  rw [h]
  dsimp only
  rw [if_pos hn]
theorem mFld_val {c f : Str} {F1 : FL.Env → List Ob → Option (D × List Ob)} {ρ : FL.Env} {S1 : List Ob} {t : Nat} {ob : Ob} {d : D} (h1 : F1 ρ S = some (.obj t, S1)) (h2 : S1[t]? = some ob) (h3 : ob.k = .ins ∧ ob.c = c) (h4 : dget f ob.fs ob.xs = some d) : mFld c f F1 ρ S = some (d, S1) := by
  unfold mFld
  rw [h1]
  dsimp only
  rw [h2]
  dsimp only
  rw [if_pos h3, h4]
theorem sh_req (h : IsReq r nm) : shE S (some r) = some r := by
  obtain ⟨k, xs, rfl⟩ := req_tup h
  rfl
theorem dgetN_L (nm : Option Str) : dgetND (.dct (ksL L) (xsL L)) (nmD nm) = some (fD (nm.bind fun k => fnd k L)) := by
  cases nm with
  | none => rfl
  | some k =>
    show (match dget k (ksL L) (xsL L) with | some d => some d | none => if dhas k (ksL L) = false then some D.non else none) = some (fD (fnd k L))
    rw [dget_L, dhas_L]
    cases fnd k L <;> rfl
theorem noIn_strsL : ∀ ks : List Str, noInss (ks.map D.str) = true
  | [] => rfl
  | k :: ks => by show (true && noInss (ks.map D.str)) = true; rw [noIn_strsL ks]; rfl
theorem reqname (h : IsReq r nm) : eIf (FL.tB blD (FL.e2 gtD (eL lenD (aCons (eVar 1) aNil)) (eC (.int 1)))) (FL.e2 ixD (eVar 1) (eC (.int 1))) (eC .non) [some (.obj i), some r, none, none, none, none] = some (nmD nm) := by
  cases h <;> kernel_rfl
def newL (L : FL2) (nm : Option Str) (fo' : Option Fl) : FL2 := match nm with | some k => updL k fo' L | none => L
theorem done_v (h1 : S[i]? = some (th j L sh)) (h2 : S[j]? = some (hi hs)) (he : EvT hs) (hL : (ksL L).Nodup) (hl : L.length < 500) (hr : IsReq r nm) {ans : D} {fo' : Option Fl} {sh' : Bool} (A : Act r (nm.bind fun k => fnd k L) sh ans fo' sh') :
    m_Thing__done [.obj i, r] S = some (ans, S.set i (th j (newL L nm fo') sh')) := by
  have hil : i < S.length := (List.getElem?_eq_some_iff.mp h1).1
  refine runM_rt ?_
  unfold G_Thing__done
  refine w_f (qTp_val (b := false) (tB_val (x := .bl false) (e2_val (x := r) (y := .tup [.str "names"]) rfl rfl (req_ne hr)) rfl)) (w_nil ?_)
  refine w_set (d := nmD nm) (reqname hr) ?_
  refine w_asg (d := .tup [ans, .tup [fD fo', .bl sh']]) (S1 := S) (ρ' := [some (.obj i), some r, some (nmD nm), some ans, some (fD fo'), some (.bl sh')]) (qLk_val ?_ ?_) rfl (w_fg ?_)
  · show eL _ _ ([shE S (some (.obj i)), shE S (some r), shE S (some (nmD nm)), none, none, none] : FL.Env) = _
    rw [shd_thing h1 h2 he, sh_req hr]
    have e : shE S (some (nmD nm)) = some (nmD nm) := by cases nm <;> rfl
    rw [e]
    refine eL_val (ds := [.tup [fD (nm.bind fun k => fnd k L), .bl sh], r]) (aCons_val (eL_val (ds := [fD (nm.bind fun k => fnd k L), .bl sh]) (aCons_val (e2_val (x := .dct (ksL L) (xsL L)) (y := nmD nm) rfl rfl (dgetN_L nm)) rfl) rfl) rfl) (mL_val rfl A.p)
  · show (noIns ans && (noInss [D.tup [fD fo', .bl sh']])) = true
    rw [A.ni]
    show (noInss [fD fo', D.bl sh'] && true) = true
    show ((noIns (fD fo') && true) && true) = true
    rw [noIn_fD]; rfl
  refine w_putA (ob := th j L sh) (t := i) (d := .bl sh') (qPure_val rfl) rfl h1 ⟨rfl, rfl, by show 3 < 1000; decide⟩ (w_fg ?_)
  have e1 : (⟨(th j L sh).k, (th j L sh).c, putAK (th j L sh).fs "_shut", putAX "_shut" (.bl sh') (th j L sh).fs (th j L sh).xs⟩ : Ob) = th j L sh' := by rfl
  rw [e1]
  have h1' : (S.set i (th j L sh'))[i]? = some (th j L sh') := List.getElem?_set_self hil
  cases nm with
  | none =>
    refine w_f (qTp_val (by rfl)) (w_nil (w_fg (w_retP rfl)))
  | some k =>
    refine w_t (qTp_val (by rfl)) (w_as ?_)
    refine w_putA (ob := th j L sh') (t := i) (d := .dct (ksL (updL k fo' L)) (xsL (updL k fo' L))) (S1 := S.set i (th j L sh')) (mCall_val (ds := [.dct (ksL L) (xsL L), .str k, fD fo']) (qCons_val (mFld_val (qPure_val rfl) h1' ⟨rfl, rfl⟩ rfl) (qCons_val (qPure_val rfl) (qCons_val (qPure_val rfl) rfl))) rfl (pMir_val (with_field hL hl))) rfl h1' ⟨rfl, rfl, by show 3 < 1000; decide⟩ (w_nil (w_fg ?_))
    have e2 : (⟨(th j L sh').k, (th j L sh').c, putAK (th j L sh').fs "_fields", putAX "_fields" (.dct (ksL (updL k fo' L)) (xsL (updL k fo' L))) (th j L sh').fs (th j L sh').xs⟩ : Ob) = th j (updL k fo' L) sh' := by rfl
    rw [e2, List.set_set]
    exact w_retP rfl
theorem done_names (h1 : S[i]? = some (th j L sh)) (h2 : S[j]? = some (hi hs)) (he : EvT hs) : m_Thing__done [.obj i, .tup [.str "names"]] S = some (.tup ((ksL L).map D.str), S) := by
  refine runM_rt ?_
  unfold G_Thing__done
  refine w_t (qTp_val (b := true) (by kernel_rfl)) (w_as (w_ret (qLk_val ?_ ?_)))
  · show eTupD _ ([shE S (some (.obj i)), shE S (some (.tup [.str "names"])), none, none, none, none] : FL.Env) = _
    rw [shd_thing h1 h2 he]
    rfl
  · exact noIn_strsL _
theorem keep_v {e : D} (h1 : S[i]? = some (th j L sh)) (h2 : S[j]? = some (hi hs)) (hl : hs.length < 1000) : m_Thing__keep [.obj i, e] S = some (.non, S.set j (hi (hs ++ [e]))) := by
  refine runM_nx (ρ' := [some (.obj i), some e]) ?_
  unfold G_Thing__keep
  refine w_mutE (t := j) (ob := hi hs) (ob1 := hi hs) (ds := [e]) (ys := hs ++ [e]) (S0 := S) (S1 := S) (mFld_val (qPure_val rfl) h1 ⟨rfl, rfl⟩ rfl) h2 rfl rfl h2 rfl ?_ ?_
  · unfold appendF
    dsimp only
    rw [if_pos (by show hs.length < sizeLine; rw [sizeLine_eq]; omega)]
    rfl
  · unfold setL
    rw [h2]
    rfl
theorem ask_v (h1 : S[i]? = some (th j L sh)) (h2 : S[j]? = some (hi hs)) (hij : i ≠ j) (he : EvT hs) (hL : (ksL L).Nodup) (hl : L.length < 500) (hh : hs.length < 1000) (hr : IsReq r nm) {ans : D} {fo' : Option Fl} {sh' : Bool} (A : Act r (nm.bind fun k => fnd k L) sh ans fo' sh') :
    m_Thing_ask [.obj i, r] S = some (ans, (S.set i (th j (newL L nm fo') sh')).set j (hi (hs ++ [.tup [r, ans]]))) := by
  have hil : i < S.length := (List.getElem?_eq_some_iff.mp h1).1
  refine runM_rt ?_
  unfold G_Thing_ask
  refine w_oset (d := ans) (S1 := S.set i (th j (newL L nm fo') sh')) (mMe_val (ds := [r]) (ob := th j L sh) rfl h1 ⟨rfl, rfl, by kernel_rfl⟩ rfl rfl (done_v h1 h2 he hL hl hr A)) ?_
  have h1' : (S.set i (th j (newL L nm fo') sh'))[i]? = some (th j (newL L nm fo') sh') := List.getElem?_set_self hil
  have h2' : (S.set i (th j (newL L nm fo') sh'))[j]? = some (hi hs) := by rw [List.getElem?_set_ne hij]; exact h2
  refine w_ex (mMe_val (ds := [.tup [r, ans]]) (ob := th j (newL L nm fo') sh') rfl h1' ⟨rfl, rfl, by kernel_rfl⟩ rfl rfl (keep_v h1' h2' hh)) (w_fg (w_retP rfl))
theorem ask_names (h1 : S[i]? = some (th j L sh)) (h2 : S[j]? = some (hi hs)) (he : EvT hs) (hh : hs.length < 1000) :
    m_Thing_ask [.obj i, .tup [.str "names"]] S = some (.tup ((ksL L).map D.str), S.set j (hi (hs ++ [.tup [.tup [.str "names"], .tup ((ksL L).map D.str)]]))) := by
  refine runM_rt ?_
  unfold G_Thing_ask
  refine w_oset (d := .tup ((ksL L).map D.str)) (S1 := S) (mMe_val (ds := [.tup [.str "names"]]) (ob := th j L sh) rfl h1 ⟨rfl, rfl, by kernel_rfl⟩ rfl rfl (done_names h1 h2 he)) ?_
  refine w_ex (mMe_val (ds := [.tup [.tup [.str "names"], .tup ((ksL L).map D.str)]]) (ob := th j L sh) rfl h1 ⟨rfl, rfl, by kernel_rfl⟩ rfl rfl (keep_v h1 h2 hh)) (w_fg (w_retP rfl))
theorem history_v (L : FL2) (sh : Bool) (hl : hs.length < 100000) : m_Thing_history [thD hs L sh] = some (.lst hs) := by
  refine runD_rt ?_
  unfold G_Thing_history
  exact seq_ret (eL_val (ds := [.lst hs]) rfl rfl)
end
/-! ### rows, starts and requests -/
def rowD (p : Str × Fl) : D := .tup [.str p.1, .int p.2.1, .bl p.2.2.1, .bl p.2.2.2]
def insAll (rows L : FL2) : FL2 := rows.foldl (fun L p => ins p.1 p.2 L) L
theorem rows_EvT : ∀ rows : FL2, EvT (rows.map rowD) := fun rows h hh => by
  obtain ⟨p, _, rfl⟩ := List.mem_map.mp hh
  exact ⟨_, rfl⟩
theorem okS_mono : ∀ {n : Nat} {d : D}, okS n d = true → okS (n + 1) d = true
  | 0, _, h => by cases h
  | n + 1, .non, _ => rfl
  | n + 1, .bl _, _ => rfl
  | n + 1, .int _, _ => rfl
  | n + 1, .str _, _ => rfl
  | n + 1, .tup xs, h => by
    have h' : xs.length < 1000000 ∧ ∀ x ∈ xs, okS n x = true := by simpa [okS] using h
    have : ∀ x ∈ xs, okS (n + 1) x = true := fun x hx => okS_mono (h'.2 x hx)
    show (decide (xs.length < 1000000) && xs.all (okS (n + 1))) = true
    simp only [Bool.and_eq_true, decide_eq_true_eq, List.all_eq_true]
    exact ⟨h'.1, this⟩
  | n + 1, .lst xs, h => by
    have h' : xs.length < 1000000 ∧ ∀ x ∈ xs, okS n x = true := by simpa [okS] using h
    have : ∀ x ∈ xs, okS (n + 1) x = true := fun x hx => okS_mono (h'.2 x hx)
    show (decide (xs.length < 1000000) && xs.all (okS (n + 1))) = true
    simp only [Bool.and_eq_true, decide_eq_true_eq, List.all_eq_true]
    exact ⟨h'.1, this⟩
  | n + 1, .klst xs, h => by
    have h' : xs.length < 1000000 ∧ ∀ x ∈ xs, okS n x = true := by simpa [okS] using h
    have : ∀ x ∈ xs, okS (n + 1) x = true := fun x hx => okS_mono (h'.2 x hx)
    show (decide (xs.length < 1000000) && xs.all (okS (n + 1))) = true
    simp only [Bool.and_eq_true, decide_eq_true_eq, List.all_eq_true]
    exact ⟨h'.1, this⟩
  | n + 1, .obj i, h => by cases h
  | n + 1, .ins c fs xs, h => by cases h
  | n + 1, .dct fs xs, h => by cases h
theorem okS_tup {n : Nat} {xs : List D} (hl : xs.length < 1000000) (h : ∀ x ∈ xs, okS n x = true) : okS (n + 1) (.tup xs) = true := by
  show (decide (xs.length < 1000000) && xs.all (okS n)) = true
  simp only [Bool.and_eq_true, decide_eq_true_eq, List.all_eq_true]
  exact ⟨hl, h⟩
theorem okS_lst {n : Nat} {xs : List D} (hl : xs.length < 1000000) (h : ∀ x ∈ xs, okS n x = true) : okS (n + 1) (.lst xs) = true := by
  show (decide (xs.length < 1000000) && xs.all (okS n)) = true
  simp only [Bool.and_eq_true, decide_eq_true_eq, List.all_eq_true]
  exact ⟨hl, h⟩
theorem okS_names (L : FL2) (h : L.length < 1000) : okS 4 (.tup ((ksL L).map D.str)) = true := by
  refine okS_tup (by simp [ksL]; omega) fun x hx => ?_
  obtain ⟨_, _, rfl⟩ := List.mem_map.mp hx
  rfl
theorem same_ok {d : D} (h : okS 4 d = true) : m__law_is_same 6 [d, d] = some (.bl true) := isSame_refl 6 d (okS_mono (okS_mono h))
/-- told: requests with their answers -/
def Told (hs : List D) : Prop := ∀ h ∈ hs, okS 5 h = true ∧ noIns h = true ∧ ∃ xs, h = .tup xs
theorem Told.ev {hs : List D} (h : Told hs) : EvT hs := fun x hx => (h x hx).2.2
theorem Told.add {hs : List D} {r a : D} (h : Told hs) (hr : okS 4 r = true) (ha : okS 4 a = true) (nr : noIns r = true) (na : noIns a = true) : Told (hs ++ [.tup [r, a]]) := fun x hx => by
  rcases List.mem_append.mp hx with hx | hx
  · exact h x hx
  · cases List.mem_singleton.mp hx
    refine ⟨okS_tup (by show 2 < 1000000; decide) fun y hy => ?_, ?_, _, rfl⟩
    · rcases List.mem_cons.mp hy with rfl | hy
      · exact hr
      · cases List.mem_singleton.mp hy; exact ha
    · show (noIns r && (noIns a && true)) = true
      rw [nr, na]; rfl
theorem Told.noInss : ∀ {hs : List D}, Told hs → noInss hs = true
  | [], _ => rfl
  | x :: hs, h => by
    show (noIns x && FL.noInss hs) = true
    rw [(h x (.head _)).2.1, Told.noInss (hs := hs) fun y hy => h y (.tail _ hy)]; rfl
theorem Told.same {hs : List D} (h : Told hs) (hl : hs.length < 100000) : m__law_is_same 6 [.lst hs, .lst hs] = some (.bl true) := isSame_refl 6 _ (okS_lst (by omega) fun x hx => (h x hx).1)
theorem spot_fl (z : Int) : ∃ (fo : Option Fl) (s : Bool), m__law_spot [.int z] = some (.tup [fD fo, .bl s]) := by
  obtain ⟨F, s, h, hF⟩ := spot_form z
  rcases hF with rfl | ⟨v, c, g, rfl, _, _⟩
  · exact ⟨none, s, h⟩
  · exact ⟨some (v, c, g), s, h⟩
theorem label_fl (z : Int) : ∃ L : Str, ixD (.str "abcdefgh") (.int (z % 8)) = some (.str L) ∧ L ∈ letters := label_form z
theorem starts_form (ds : List Int) (h9 : ds.length = 9) : ∃ rows : FL2, m__law_starts [.lst (ds.map D.int)] = some (.lst (rows.map rowD)) ∧ rows.length ≤ 8 ∧ ∀ p ∈ rows, p.1 ∈ letters := by
  obtain ⟨z0, hz0⟩ : ∃ z, ds[0]? = some z := ⟨ds[0]'(by omega), List.getElem?_eq_getElem (by omega)⟩
  have ix0 : ∀ ρ : FL.Env, ρ[0]? = some (some (.lst (ds.map D.int))) → FL.e2 ixD (eVar 0) (eC (.int 0)) ρ = some (.int z0) := fun ρ h => by
    refine e2_val (x := .lst (ds.map D.int)) (y := .int 0) (var_v h) rfl ?_
    exact atI_nat (k := 0) (by rw [List.getElem?_map, hz0]; rfl)
  obtain ⟨m, hm, hm9⟩ : ∃ m : Nat, z0 % 9 = (m : Int) ∧ m < 9 := ⟨(z0 % 9).toNat, by omega, by omega⟩
  obtain ⟨ρ', h1, rows, x2, x3, x4, rfl, hr1, hr2⟩ := loop_nx (g := gSet 2) (B := (sSeq (sSet 3 (FL.e2 ixD (eL (mL 1 m__law_spot) (aCons (FL.e2 ixD (eVar 0) (FL.e2 addD (eC (.int 1)) (eVar 2))) aNil)) (eC (.int 0))))
    (sSeq (sSet 4 (FL.e2 ixD (eC (.str "abcdefgh")) (FL.e2 modD (eL intD (aCons (FL.e2 addD (FL.e2 fdivD (FL.e2 ixD (eVar 0) (eC (.int 0))) (eC (.int 9))) (FL.e2 mulD (eVar 2) (FL.e2 ixD (eL lstD (aK [(.int 1), (.int 3), (.int 5), (.int 7)])) (FL.e2 modD (eL intD (aCons (FL.e2 fdivD (FL.e2 ixD (eVar 0) (eC (.int 0))) (eC (.int 72))) aNil)) (eC (.int 4)))))) aNil)) (eC (.int 8)))))
    (sSeq (sIf (FL.tB blD (FL.e2 isntD (eVar 3) (eC .non)))
      (sSeq (sMut 1 appendF (aCons (eL tupD (aCons (eVar 4) (aCons (FL.e2 ixD (eVar 3) (eC (.int 0))) (aCons (FL.e2 ixD (eVar 3) (eC (.int 1))) (aCons (FL.e2 ixD (eVar 3) (eC (.int 2))) aNil))))) aNil))
    sNil)
      sNil)
    sNil)))) (I := fun k ρ => ∃ (rows : FL2) (x2 x3 x4 : Option D), ρ = [some (.lst (ds.map D.int)), some (.lst (rows.map rowD)), x2, x3, x4] ∧ rows.length ≤ k ∧ ∀ p ∈ rows, p.1 ∈ letters) (rngD 0 m) 0 [some (.lst (ds.map D.int)), some (.lst []), none, none, none] (fun k ρ d h hd => by
      obtain ⟨rows, x2, x3, x4, rfl, hr1, hr2⟩ := h
      obtain ⟨hk, rfl⟩ := rngD_get hd
      rw [Nat.zero_add] at hr1
      obtain ⟨z, hz⟩ : ∃ z, ds[1 + k]? = some z := ⟨ds[1 + k]'(by omega), List.getElem?_eq_getElem (by omega)⟩
      obtain ⟨fo, s, hs⟩ := spot_fl z
      obtain ⟨t, ht⟩ : ∃ t : Int, ixD (.lst [.int 1, .int 3, .int 5, .int 7]) (.int (z0 / 72 % 4)) = some (.int t) := by
        have h4 : z0 / 72 % 4 = 0 ∨ z0 / 72 % 4 = 1 ∨ z0 / 72 % 4 = 2 ∨ z0 / 72 % 4 = 3 := by omega
        rcases h4 with h4 | h4 | h4 | h4 <;> rw [h4]
        · exact ⟨1, by kernel_rfl⟩
        · exact ⟨3, by kernel_rfl⟩
        · exact ⟨5, by kernel_rfl⟩
        · exact ⟨7, by kernel_rfl⟩
      obtain ⟨L, hL, hL'⟩ := label_fl (z0 / 9 + (0 + (k : Int)) * t)
      have ex : FL.e2 ixD (eL (mL 1 m__law_spot) (aCons (FL.e2 ixD (eVar 0) (FL.e2 addD (eC (.int 1)) (eVar 2))) aNil)) (eC (.int 0)) [some (.lst (ds.map D.int)), some (.lst (rows.map rowD)), some (.int (0 + (k : Int))), x3, x4] = some (fD fo) := by
        refine e2_val (x := .tup [fD fo, .bl s]) (y := .int 0) (eL_val (ds := [.int z]) (aCons_val ?_ rfl) (mL_val rfl hs)) rfl rfl
        refine e2_val (x := .lst (ds.map D.int)) (y := .int (1 + (0 + (k : Int)))) rfl (add_v rfl rfl) ?_
        show L2.atI (ds.map D.int) (1 + (0 + (k : Int))) = _
        rw [show (1 + (0 + (k : Int))) = ((1 + k : Nat) : Int) by omega]
        exact atI_nat (by rw [List.getElem?_map, hz]; rfl)
      have lb : FL.e2 ixD (eC (.str "abcdefgh")) (FL.e2 modD (eL intD (aCons (FL.e2 addD (FL.e2 fdivD (FL.e2 ixD (eVar 0) (eC (.int 0))) (eC (.int 9))) (FL.e2 mulD (eVar 2) (FL.e2 ixD (eL lstD (aK [(.int 1), (.int 3), (.int 5), (.int 7)])) (FL.e2 modD (eL intD (aCons (FL.e2 fdivD (FL.e2 ixD (eVar 0) (eC (.int 0))) (eC (.int 72))) aNil)) (eC (.int 4)))))) aNil)) (eC (.int 8))) [some (.lst (ds.map D.int)), some (.lst (rows.map rowD)), some (.int (0 + (k : Int))), some (fD fo), x4] = some (.str L) := by
        refine e2_val (x := .str "abcdefgh") (y := .int ((z0 / 9 + (0 + (k : Int)) * t) % 8)) rfl (mod_v 8 (by decide) (int_v (add_v (fdiv_v 9 (by decide) (ix0 _ rfl)) (mul_v rfl ?_ (.inl ⟨by omega, by omega⟩))))) hL
        exact e2_val (x := .lst [.int 1, .int 3, .int 5, .int 7]) (y := .int (z0 / 72 % 4)) (by kernel_rfl) (mod_v 4 (by decide) (int_v (fdiv_v 72 (by decide) (ix0 _ rfl)))) ht
      refine ⟨[some (.lst (ds.map D.int)), some (.lst (rows.map rowD)), some (.int (0 + (k : Int))), x3, x4], ?_⟩
      rcases fo with _ | ⟨v, c, g⟩
      · refine ⟨_, rfl, seq_set ex (seq_set lb (seq_f (by rfl) (seq_nil rfl))), rows, _, _, _, rfl, by omega, hr2⟩
      · refine ⟨[some (.lst (ds.map D.int)), some (.lst ((rows ++ [(L, (v, c, g))]).map rowD)), some (.int (0 + (k : Int))), some (fD (some (v, c, g))), some (.str L)], rfl, seq_set ex (seq_set lb (seq_t (by rfl) (seq_as ?_))), _, _, _, _, rfl, by simp; omega, ?_⟩
        · refine seq_mut (ds := [rowD (L, (v, c, g))]) (xs := rows.map rowD) (ys := (rows ++ [(L, (v, c, g))]).map rowD) (by kernel_rfl) rfl ?_ (seq_nil rfl)
          unfold appendF
          dsimp only
          rw [if_pos (by show (rows.map rowD).length < sizeLine; rw [sizeLine_eq]; simp; omega)]
          simp
        · intro p hp
          rcases List.mem_append.mp hp with hp | hp
          · exact hr2 p hp
          · cases List.mem_singleton.mp hp; exact hL') ⟨[], none, none, none, rfl, Nat.le_refl _, fun _ h => nomatch h⟩
  refine ⟨rows, runD_rt ?_, by rw [Nat.zero_add, rngD_len] at hr1; omega, hr2⟩
  unfold G__law_starts
  refine seq_set (d := .lst []) rfl (seq_for (ds := rngD 0 m) ?_ h1 (seq_fg (seq_ret rfl)))
  refine rng1_v ?_ (by omega)
  rw [← hm]
  exact mod_v 9 (by decide) (int_v (ix0 _ rfl))
theorem label3 (z w : Int) (hw : w = 8 ∨ w = 3) : ∃ L : Str, ixD (.str "abcdefgh") (.int (z % w)) = some (.str L) ∧ L ∈ letters := by
  rcases hw with rfl | rfl
  · exact label_fl z
  · obtain ⟨L, h, h2⟩ := label_fl (z % 3)
    rw [show z % 3 % 8 = z % 3 by omega] at h
    exact ⟨L, h, h2⟩
theorem request_form (z w : Int) (hw : w = 8 ∨ w = 3) : ∃ d, m__law_request [.int z, .int w] = some d ∧ (d = .tup [.str "names"] ∨ ∃ nm, IsReq d nm) := by
  obtain ⟨L, hL, hL'⟩ := label3 z w hw
  have core : ∀ (v : Int) (c g : Bool) (l : D), (l = .tup [.str "isshut"] ∨ l = .tup [.str "shut"]) → ∀ j : Int, 0 ≤ j → j < 10 → ∃ d, ixD (.lst [.tup [.str "look", .str L], .tup [.str "has", .str L], .tup [.str "get", .str L], .tup [.str "set", .str L, .int v], .tup [.str "define", .str L, .int v, .bl c, .bl g], .tup [.str "set", .str L, .int v], .tup [.str "define", .str L, .int v, .bl c, .bl g], .tup [.str "take", .str L], .tup [.str "names"], l]) (.int j) = some d ∧ (d = .tup [.str "names"] ∨ ∃ nm, IsReq d nm) := fun v c g l hl j h0 h10 => by
    have h : j = 0 ∨ j = 1 ∨ j = 2 ∨ j = 3 ∨ j = 4 ∨ j = 5 ∨ j = 6 ∨ j = 7 ∨ j = 8 ∨ j = 9 := by omega
    rcases h with rfl | rfl | rfl | rfl | rfl | rfl | rfl | rfl | rfl | rfl
    · exact ⟨_, rfl, .inr ⟨_, .look L hL'⟩⟩
    · exact ⟨_, rfl, .inr ⟨_, .has L hL'⟩⟩
    · exact ⟨_, rfl, .inr ⟨_, .get L hL'⟩⟩
    · exact ⟨_, rfl, .inr ⟨_, .set L v hL'⟩⟩
    · exact ⟨_, rfl, .inr ⟨_, .define L v c g hL'⟩⟩
    · exact ⟨_, rfl, .inr ⟨_, .set L v hL'⟩⟩
    · exact ⟨_, rfl, .inr ⟨_, .define L v c g hL'⟩⟩
    · exact ⟨_, rfl, .inr ⟨_, .take L hL'⟩⟩
    · exact ⟨_, rfl, .inl rfl⟩
    · refine ⟨l, rfl, .inr ⟨none, ?_⟩⟩
      rcases hl with rfl | rfl
      · exact .isshut
      · exact .shut
  have fin : ∀ l, (l = .tup [.str "isshut"] ∨ l = .tup [.str "shut"]) → ∃ d, ixD (.lst [.tup [.str "look", .str L], .tup [.str "has", .str L], .tup [.str "get", .str L], .tup [.str "set", .str L, .int (z / 8 / 10 % 10)], .tup [.str "define", .str L, .int (z / 8 / 10 % 10), .bl (z / 8 / 100 % 2 == 1), .bl (z / 8 / 200 % 2 == 1)], .tup [.str "set", .str L, .int (z / 8 / 10 % 10)], .tup [.str "define", .str L, .int (z / 8 / 10 % 10), .bl (z / 8 / 100 % 2 == 1), .bl (z / 8 / 200 % 2 == 1)], .tup [.str "take", .str L], .tup [.str "names"], l]) (.int (z / 8 % 10)) = some d ∧ (d = .tup [.str "names"] ∨ ∃ nm, IsReq d nm) := fun l hl => core _ _ _ l hl _ (by omega) (by omega)
  have go : ∀ l, l = (if (z / 8 / 400 % 4 == 1) = true then D.tup [.str "shut"] else .tup [.str "isshut"]) → ∃ d, m__law_request [.int z, .int w] = some d ∧ (d = .tup [.str "names"] ∨ ∃ nm, IsReq d nm) := fun l hl => by
    obtain ⟨d, hd, hd2⟩ := fin l (by rw [hl]; split; exact .inr rfl; exact .inl rfl)
    refine ⟨d, runD_rt ?_, hd2⟩
    unfold G__law_request
    refine seq_set (d := .str L) (e2_val (x := .str "abcdefgh") (y := .int (z % w)) rfl (e2_val (x := .int z) (y := .int w) (int_v rfl) rfl (by rcases hw with rfl | rfl <;> rfl)) hL) (seq_fg ?_)
    refine seq_set (d := .int (z / 8)) (fdiv_v 8 (by decide) (int_v rfl)) (seq_fg ?_)
    refine seq_set (d := .int (z / 8 / 10 % 10)) (mod_v 10 (by decide) (fdiv_v 10 (by decide) rfl)) ?_
    refine seq_set (d := .tup [.int (z / 8 / 10 % 10), .bl (z / 8 / 100 % 2 == 1), .bl (z / 8 / 200 % 2 == 1)]) (eL_val (ds := [.int (z / 8 / 10 % 10), .bl (z / 8 / 100 % 2 == 1), .bl (z / 8 / 200 % 2 == 1)]) (aCons_val rfl (aCons_val (eq_v (mod_v 2 (by decide) (fdiv_v 100 (by decide) rfl)) rfl) (aCons_val (eq_v (mod_v 2 (by decide) (fdiv_v 200 (by decide) rfl)) rfl) rfl))) rfl) ?_
    refine seq_set (d := .lst [.tup [.str "look", .str L], .tup [.str "has", .str L], .tup [.str "get", .str L], .tup [.str "set", .str L, .int (z / 8 / 10 % 10)]]) (by kernel_rfl) ?_
    refine seq_set (d := .lst [.tup [.str "look", .str L], .tup [.str "has", .str L], .tup [.str "get", .str L], .tup [.str "set", .str L, .int (z / 8 / 10 % 10)], .tup [.str "define", .str L, .int (z / 8 / 10 % 10), .bl (z / 8 / 100 % 2 == 1), .bl (z / 8 / 200 % 2 == 1)], .tup [.str "set", .str L, .int (z / 8 / 10 % 10)]]) (by kernel_rfl) ?_
    refine seq_set (d := .lst [.tup [.str "look", .str L], .tup [.str "has", .str L], .tup [.str "get", .str L], .tup [.str "set", .str L, .int (z / 8 / 10 % 10)], .tup [.str "define", .str L, .int (z / 8 / 10 % 10), .bl (z / 8 / 100 % 2 == 1), .bl (z / 8 / 200 % 2 == 1)], .tup [.str "set", .str L, .int (z / 8 / 10 % 10)], .tup [.str "define", .str L, .int (z / 8 / 10 % 10), .bl (z / 8 / 100 % 2 == 1), .bl (z / 8 / 200 % 2 == 1)], .tup [.str "take", .str L], .tup [.str "names"]]) (by kernel_rfl) (seq_fg ?_)
    refine seq_set (d := .tup [.str "isshut"]) rfl ?_
    refine seq_if (b := z / 8 / 400 % 4 == 1) (teq_v (mod_v 4 (by decide) (fdiv_v 400 (by decide) rfl)) rfl) (fun hb => ?_) (fun hb => ?_)
    · rw [hb, if_pos rfl] at hl
      subst hl
      refine seq_as (seq_set (d := .tup [.str "shut"]) rfl (seq_nil (seq_ret (e2_val (x := .lst [.tup [.str "look", .str L], .tup [.str "has", .str L], .tup [.str "get", .str L], .tup [.str "set", .str L, .int (z / 8 / 10 % 10)], .tup [.str "define", .str L, .int (z / 8 / 10 % 10), .bl (z / 8 / 100 % 2 == 1), .bl (z / 8 / 200 % 2 == 1)], .tup [.str "set", .str L, .int (z / 8 / 10 % 10)], .tup [.str "define", .str L, .int (z / 8 / 10 % 10), .bl (z / 8 / 100 % 2 == 1), .bl (z / 8 / 200 % 2 == 1)], .tup [.str "take", .str L], .tup [.str "names"], _]) (by kernel_rfl) (mod_v 10 (by decide) rfl) hd))))
    · rw [hb, if_neg (by decide)] at hl
      subst hl
      exact seq_nil (seq_ret (e2_val (x := .lst [.tup [.str "look", .str L], .tup [.str "has", .str L], .tup [.str "get", .str L], .tup [.str "set", .str L, .int (z / 8 / 10 % 10)], .tup [.str "define", .str L, .int (z / 8 / 10 % 10), .bl (z / 8 / 100 % 2 == 1), .bl (z / 8 / 200 % 2 == 1)], .tup [.str "set", .str L, .int (z / 8 / 10 % 10)], .tup [.str "define", .str L, .int (z / 8 / 10 % 10), .bl (z / 8 / 100 % 2 == 1), .bl (z / 8 / 200 % 2 == 1)], .tup [.str "take", .str L], .tup [.str "names"], _]) (by kernel_rfl) (mod_v 10 (by decide) rfl) hd))
  exact go _ rfl
theorem insAll_nodup : ∀ {rows L : FL2}, (ksL L).Nodup → (ksL (insAll rows L)).Nodup
  | [], _, h => h
  | p :: rows, L, h => insAll_nodup (rows := rows) (nodup_ins (k := p.1) (f := p.2) h)
theorem insAll_len : ∀ {rows L : FL2}, (insAll rows L).length ≤ L.length + rows.length
  | [], _ => Nat.le_refl _
  | p :: rows, L => by
    have h1 := insAll_len (rows := rows) (L := ins p.1 p.2 L)
    have h2 := len_ins (k := p.1) (f := p.2) (L := L)
    show (insAll rows (ins p.1 p.2 L)).length ≤ L.length + (rows.length + 1)
    omega
theorem dcL_rows {a0 a1 : Option D} : ∀ (rows L : FL2), L.length + rows.length < 1000 →
    dcL (gTup (gCons (gSet 2) (gCons (gSet 3) (gCons (gSet 4) (gCons (gSet 5) gNil))))) tYesE (eVar 2) (eL tupD (aCons (eVar 3) (aCons (eVar 4) (aCons (eVar 5) aNil)))) [a0, a1, none, none, none, none] (rows.map rowD) (ksL L) (xsL L) = some (ksL (insAll rows L), xsL (insAll rows L))
  | [], L, _ => rfl
  | p :: rows, L, h => by
    obtain ⟨k, v, c, g⟩ := p
    show dcL _ _ _ _ _ (rowD (k, (v, c, g)) :: rows.map rowD) _ _ = some (ksL (insAll rows (ins k (v, c, g) L)), xsL (insAll rows (ins k (v, c, g) L)))
    unfold dcL
    rw [show gTup (gCons (gSet 2) (gCons (gSet 3) (gCons (gSet 4) (gCons (gSet 5) gNil)))) (rowD (k, (v, c, g))) [a0, a1, none, none, none, none] = some [a0, a1, some (.str k), some (.int v), some (.bl c), some (.bl g)] from rfl]
    dsimp only
    rw [show tYesE [a0, a1, some (.str k), some (.int v), some (.bl c), some (.bl g)] = some true from rfl]
    dsimp only
    rw [show eVar 2 [a0, a1, some (.str k), some (.int v), some (.bl c), some (.bl g)] = some (.str k) from rfl]
    dsimp only
    rw [show eL tupD (aCons (eVar 3) (aCons (eVar 4) (aCons (eVar 5) aNil))) [a0, a1, some (.str k), some (.int v), some (.bl c), some (.bl g)] = some (fD (some (v, c, g))) from rfl]
    dsimp only
    have hl : (ksL L).length = L.length := by simp [ksL]
    have := len_ins (k := k) (f := (v, c, g)) (L := L)
    simp only [List.length_cons] at h
    rw [if_pos (by omega), dputK_L k (v, c, g), dputX_L]
    exact dcL_rows rows _ (by omega)
theorem noIn_xsL : ∀ L : FL2, noInss (xsL L) = true
  | [] => rfl
  | p :: L => by
    show (noIns (fD (some p.2)) && noInss (xsL L)) = true
    rw [noIn_fD, noIn_xsL L]; rfl
theorem new_thing {S : List Ob} {t : Nat} {rows : FL2} (h : S[t]? = some (hi (rows.map rowD))) (hl : rows.length < 500) :
    m_Thing___init__ [.obj S.length, .obj t] (S ++ [⟨.ins, "Thing", [], []⟩]) = some (.non, S ++ [th (S.length + 1) (insAll rows []) false, hi []]) := by
  have ht : t < S.length := (List.getElem?_eq_some_iff.mp h).1
  have setA : ∀ a b x : Ob, ((S ++ [a]) ++ [b]).set S.length x = S ++ [x, b] := fun a b x => by simp
  have setB : ∀ a b x : Ob, (S ++ [a, b]).set S.length x = S ++ [x, b] := fun a b x => by simp
  have getA : ∀ a b : Ob, (S ++ [a, b])[S.length]? = some a := fun a b => by simp
  have getA' : ∀ a b : Ob, ((S ++ [a]) ++ [b])[S.length]? = some a := fun a b => by simp
  have getT : ∀ a b : Ob, (S ++ [a, b])[t]? = some (hi (rows.map rowD)) := fun a b => by rw [List.getElem?_append_left ht]; exact h
  refine runM_nx (ρ' := [some (.obj S.length), none, none, none, none, none]) ?_
  unfold G_Thing___init__
  refine w_ex (d := .non) (S1 := S ++ [⟨.ins, "Thing", ["_history"], [.obj (S.length + 1)]⟩, hi []]) (mCall_val (ds := [.obj S.length]) rfl rfl (runM_nx (ρ' := [some (.obj S.length)]) ?_)) ?_
  · unfold G_Recorded___init__
    refine w_putA (S1 := (S ++ [⟨.ins, "Thing", [], []⟩]) ++ [hi []]) (d := .obj (S ++ [⟨.ins, "Thing", [], []⟩] : List Ob).length) (ob := ⟨.ins, "Thing", [], []⟩) (t := S.length) (by rfl) rfl (getA' _ _) ⟨rfl, rfl, by show 0 < 1000; decide⟩ ?_
    rw [setA]
    have e : (S ++ [(⟨.ins, "Thing", [], []⟩ : Ob)]).length = S.length + 1 := by simp
    rw [e]
    rfl
  · have sh : shE (S ++ [⟨.ins, "Thing", ["_history"], [.obj (S.length + 1)]⟩, hi []]) (some (.obj t)) = some (.lst (rows.map rowD)) := by
      show some (shd _ 6 (.obj t)) = _
      unfold shd
      rw [getT]
      show some (D.lst ((rows.map rowD).map _)) = _
      rw [map_shd (rows_EvT rows)]
    refine w_putA (S1 := S ++ [⟨.ins, "Thing", ["_history"], [.obj (S.length + 1)]⟩, hi []]) (d := .dct (ksL (insAll rows [])) (xsL (insAll rows []))) (ob := ⟨.ins, "Thing", ["_history"], [.obj (S.length + 1)]⟩) (t := S.length) (qLkD_val ?_ (noIn_xsL _)) rfl (getA _ _) ⟨rfl, rfl, by show 1 < 1000; decide⟩ (w_fg ?_)
    · show eDc _ _ _ _ _ _ ([shE (S ++ [⟨.ins, "Thing", ["_history"], [.obj (S.length + 1)]⟩, hi []]) (some (.obj S.length)), shE (S ++ [⟨.ins, "Thing", ["_history"], [.obj (S.length + 1)]⟩, hi []]) (some (.obj t)), none, none, none, none] : FL.Env) = _
      rw [sh]
      generalize shE (S ++ [⟨.ins, "Thing", ["_history"], [.obj (S.length + 1)]⟩, hi []]) (some (.obj S.length)) = A0
      unfold eDc
      rw [show iSeq isLst (eVar 1) [A0, some (.lst (rows.map rowD)), none, none, none, none] = some (rows.map rowD) from rfl]
      dsimp only
      rw [if_pos (by rw [List.length_map]; omega)]
      show (match dcL (gTup (gCons (gSet 2) (gCons (gSet 3) (gCons (gSet 4) (gCons (gSet 5) gNil))))) tYesE (eVar 2) (eL tupD (aCons (eVar 3) (aCons (eVar 4) (aCons (eVar 5) aNil)))) [A0, some (.lst (rows.map rowD)), none, none, none, none] (rows.map rowD) (ksL []) (xsL []) with | some (ks, xs) => some (D.dct ks xs) | none => none) = _
      rw [dcL_rows rows [] (by simp; omega)]
    · rw [setB]
      refine w_putA (S1 := S ++ [⟨.ins, "Thing", ["_history", "_fields"], [.obj (S.length + 1), .dct (ksL (insAll rows [])) (xsL (insAll rows []))]⟩, hi []]) (d := .bl false) (ob := ⟨.ins, "Thing", ["_history", "_fields"], [.obj (S.length + 1), .dct (ksL (insAll rows [])) (xsL (insAll rows []))]⟩) (t := S.length) (by kernel_rfl) rfl (getA _ _) ⟨rfl, rfl, by show 2 < 1000; decide⟩ ?_
      rw [setB]
      rfl
/-! ### k12: what is due -/
def dic (L : FL2) : Ob := ⟨.dic, "", ksL L, xsL L⟩
theorem deq_fD (a b : Option Fl) : ∃ q, neD (fD a) (fD b) = some (.bl (!q)) ∧ (q = true ↔ a = b) := by
  rcases a with _ | ⟨v, c, g⟩ <;> rcases b with _ | ⟨w, c2, g2⟩
  · exact ⟨true, by kernel_rfl, by simp⟩
  · exact ⟨false, by kernel_rfl, by simp⟩
  · exact ⟨false, by kernel_rfl, by simp⟩
  · refine ⟨(v == w) && ((c == c2) && ((g == g2) && true)), by kernel_rfl, ?_⟩
    simp
section
variable {S : List Ob} {f c : Nat} {L : FL2} {sh : Bool} {r : D} {nm : Option Str}
theorem shd_dic (h : S[f]? = some (dic L)) : shE S (some (.obj f)) = some (.dct (ksL L) (xsL L)) := by
  show some (shd S 6 (.obj f)) = _
  unfold shd
  rw [h]
  show some (D.dct (ksL L) ((xsL L).map (shd S 5))) = _
  have : (xsL L).map (shd S 5) = xsL L := by
    unfold xsL
    rw [List.map_map]
    refine List.map_congr_left fun p _ => ?_
    obtain ⟨k, v, c, g⟩ := p
    rfl
  rw [this]
theorem shd_cls (h : S[c]? = some (hi [.bl sh])) : shE S (some (.obj c)) = some (.lst [.bl sh]) := by
  show some (shd S 6 (.obj c)) = _
  unfold shd
  rw [h]
  rfl
theorem w_putD {i t : Nat} {k : Str} {d : D} {F1 : FL.Env → List Ob → Option (D × List Ob)} {Fi : FL.Env → Option D} {G : FL.Env → List Ob → Option MOut} {ρ : FL.Env} {S1 : List Ob} {o : Option MOut} {ob : Ob} (h1 : F1 ρ S = some (d, S1)) (h2 : Fi ρ = some (.str k)) (h3 : ρ[i]? = some (some (.obj t))) (h4 : S1[t]? = some ob) (h5 : ob.k = .dic ∧ ob.fs.length < 1000) (k' : G ρ (S1.set t ⟨.dic, ob.c, dputK ob.fs k, dputX k d ob.fs ob.xs⟩) = o) : mSeq (mPutD i Fi F1) G ρ S = o := by
  unfold mSeq mPutD
  rw [h1]
  dsimp only
  rw [h2]
  dsimp only
  rw [h3]
  dsimp only
  rw [h4]
  dsimp only
  rw [if_pos h5]
  have e : setD S1 t (dputK ob.fs k) (dputX k d ob.fs ob.xs) = S1.set t ⟨.dic, ob.c, dputK ob.fs k, dputX k d ob.fs ob.xs⟩ := by unfold setD; rw [h4]
  rw [e]
  exact k'
theorem w_popD {i t : Nat} {k : Str} {Fi : FL.Env → Option D} {G : FL.Env → List Ob → Option MOut} {ρ : FL.Env} {o : Option MOut} {ob : Ob} (h2 : Fi ρ = some (.str k)) (h3 : ρ[i]? = some (some (.obj t))) (h4 : S[t]? = some ob) (h5 : ob.k = .dic ∧ dhas k ob.fs = true) (k' : G ρ (S.set t ⟨.dic, ob.c, ddelK k ob.fs, ddelX k ob.fs ob.xs⟩) = o) : mSeq (mPopD i Fi) G ρ S = o := by
  unfold mSeq mPopD
  rw [h2]
  dsimp only
  rw [h3]
  dsimp only
  rw [h4]
  dsimp only
  rw [if_pos h5]
  have e : setD S t (ddelK k ob.fs) (ddelX k ob.fs ob.xs) = S.set t ⟨.dic, ob.c, ddelK k ob.fs, ddelX k ob.fs ob.xs⟩ := by unfold setD; rw [h4]
  rw [e]
  exact k'
theorem and_v {A B : FL.Env → Option Bool} {ρ : FL.Env} {b c : Bool} (h1 : A ρ = some b) (h2 : B ρ = some c) : FL.tAnd A B ρ = some (b && c) := by
  unfold FL.tAnd
  rw [h1]
  cases b
  · rfl
  · exact h2
theorem does_names (h1 : S[f]? = some (dic L)) : m__law_does [.obj f, .obj c, .tup [.str "names"]] S = some (.tup ((ksL L).map D.str), S) := by
  refine runM_rt ?_
  unfold G__law_does
  refine w_set (d := .str "names") rfl (w_t (qTp_val (b := true) (by kernel_rfl)) (w_as (w_ret (qLk_val ?_ (noIn_strsL _)))))
  show eL tupOf _ ([shE S (some (.obj f)), shE S (some (.obj c)), shE S (some (.tup [.str "names"])), shE S (some (.str "names")), none, none] : FL.Env) = _
  rw [shd_dic h1]
  exact eL_val (ds := [.lst ((ksL L).map D.str)]) rfl rfl
theorem set_id {α : Type} {xs : List α} {i : Nat} {x : α} (h : xs[i]? = some x) : xs.set i x = xs := by
  apply List.ext_getElem?
  intro j
  by_cases hj : j = i
  · subst hj
    rw [List.getElem?_set_self (List.getElem?_eq_some_iff.mp h).1, h]
  · rw [List.getElem?_set_ne (Ne.symm hj)]
theorem does_v (h1 : S[f]? = some (dic L)) (h2 : S[c]? = some (hi [.bl sh])) (hfc : c ≠ f) (hL : (ksL L).Nodup) (hl : L.length < 500) (hr : IsReq r nm) {ans : D} {fo' : Option Fl} {sh' : Bool} (A : Act r (nm.bind fun k => fnd k L) sh ans fo' sh') (hn : nm = none → fo' = nm.bind fun k => fnd k L) :
    m__law_does [.obj f, .obj c, r] S = some (ans, (S.set c (hi [.bl sh'])).set f (dic (newL L nm fo'))) := by
  have hfl : f < S.length := (List.getElem?_eq_some_iff.mp h1).1
  have hcl : c < S.length := (List.getElem?_eq_some_iff.mp h2).1
  obtain ⟨kd, xs, er⟩ := req_tup hr
  refine runM_rt ?_
  unfold G__law_does
  have kne : eqD (.str kd) (.str "names") = some (.bl false) ∧ ninD (.str kd) (.lst [.str "shut", .str "isshut"]) = some (.bl nm.isSome) ∧ ixD r (.int 0) = some (.str kd) := by
    cases hr <;> cases er <;> exact ⟨by kernel_rfl, by kernel_rfl, by kernel_rfl⟩
  refine w_set (d := .str kd) (e2_val (x := r) (y := .int 0) rfl rfl kne.2.2) ?_
  refine w_f (qTp_val (b := false) (tB_val (x := .bl false) (e2_val (x := .str kd) (y := .str "names") rfl rfl kne.1) rfl)) (w_nil ?_)
  refine w_set (d := .non) rfl ?_
  have cont : ∀ F0 : D, F0 = fD (nm.bind fun k => fnd k L) → mForget [3] (mSeq (mSet 5 (qLkN (eL (mL 3 m__law_act) (aCons (eVar 4) (aCons (FL.e2 ixD (eVar 1) (eC (.int 0))) (aCons (eVar 2) aNil))))))
    (mSeq (mPutI 1 (eC (.int 0)) (qPure (FL.e2 ixD (eVar 5) (eC (.int 2)))))
    (mForget [1] (mSeq (mIf (qTp (FL.tAnd (FL.tB blD (FL.e2 isntD (FL.e2 ixD (eVar 5) (eC (.int 1))) (eC .non))) (FL.tB blD (FL.e2 neD (eVar 4) (FL.e2 ixD (eVar 5) (eC (.int 1)))))))
      (mSeq (mPutD 0 (FL.e2 ixD (eVar 2) (eC (.int 1))) (qPure (FL.e2 ixD (eVar 5) (eC (.int 1)))))
    mNil)
      mNil)
    (mSeq (mIf (qTp (FL.tAnd (FL.tB blD (FL.e2 isD (FL.e2 ixD (eVar 5) (eC (.int 1))) (eC .non))) (FL.tB blD (FL.e2 isntD (eVar 4) (eC .non)))))
      (mSeq (mPopD 0 (FL.e2 ixD (eVar 2) (eC (.int 1))))
    mNil)
      mNil)
    (mForget [0, 2, 4] (mSeq (mPure (sRet (FL.e2 ixD (eVar 5) (eC (.int 0)))))
    mNil))))))) [some (.obj f), some (.obj c), some r, some (.str kd), some F0, none] S = some (.rt ans ((S.set c (hi [.bl sh'])).set f (dic (newL L nm fo')))) := fun F0 hF0 => by
    subst hF0
    refine w_fg ?_
    have hfo : okS 4 (fD fo') = true := okS_fD fo'
    refine w_oset (d := .lst [ans, fD fo', .bl sh']) (S1 := S) (qLkN_val ?_ ?_) ?_
    · show eL _ _ ([shE S (some (.obj f)), shE S (some (.obj c)), shE S (some r), none, shE S (some (fD (nm.bind fun k => fnd k L))), none] : FL.Env) = _
      rw [shd_cls h2, sh_req hr]
      have e : shE S (some (fD (nm.bind fun k => fnd k L))) = some (fD (nm.bind fun k => fnd k L)) := by
        cases (nm.bind fun k => fnd k L) with
        | none => rfl
        | some q => obtain ⟨v, c, g⟩ := q; rfl
      rw [e]
      exact eL_val (ds := [fD (nm.bind fun k => fnd k L), .bl sh, r]) (aCons_val rfl (aCons_val (e2_val (x := .lst [.bl sh]) (y := .int 0) rfl rfl rfl) (aCons_val rfl rfl))) (mL_val rfl A.l)
    · show (noIns ans && (noIns (fD fo') && true)) = true
      rw [A.ni, noIn_fD]; rfl
    refine w_putI (ob := hi [.bl sh]) (t := c) (z := 0) (j := 0) (d := .bl sh') (S1 := S) (qPure_val (e2_val (x := .lst [ans, fD fo', .bl sh']) (y := .int 2) rfl rfl rfl)) rfl rfl h2 rfl rfl (w_fg ?_)
    have e1 : setL S c ((hi [.bl sh]).xs.set 0 (.bl sh')) = S.set c (hi [.bl sh']) := by unfold setL; rw [h2]; rfl
    rw [e1]
    have h1' : (S.set c (hi [.bl sh']))[f]? = some (dic L) := by rw [List.getElem?_set_ne hfc]; exact h1
    obtain ⟨q, hq1, hq2⟩ := deq_fD (nm.bind fun k => fnd k L) fo'
    have t1 : FL.tAnd (FL.tB blD (FL.e2 isntD (FL.e2 ixD (eVar 5) (eC (.int 1))) (eC .non))) (FL.tB blD (FL.e2 neD (eVar 4) (FL.e2 ixD (eVar 5) (eC (.int 1))))) [some (.obj f), none, some r, none, some (fD (nm.bind fun k => fnd k L)), some (.lst [ans, fD fo', .bl sh'])] = some (fo'.isSome && !q) := by
      refine and_v ?_ ?_
      · refine tB_val (x := .bl fo'.isSome) (e2_val (x := fD fo') (y := .non) (e2_val (x := .lst [ans, fD fo', .bl sh']) (y := .int 1) rfl rfl rfl) rfl ?_) rfl
        rcases fo' with _ | ⟨v, c, g⟩ <;> rfl
      · exact tB_val (x := .bl (!q)) (e2_val (x := fD (nm.bind fun k => fnd k L)) (y := fD fo') rfl (e2_val (x := .lst [ans, fD fo', .bl sh']) (y := .int 1) rfl rfl rfl) hq1) rfl
    have t2 : FL.tAnd (FL.tB blD (FL.e2 isD (FL.e2 ixD (eVar 5) (eC (.int 1))) (eC .non))) (FL.tB blD (FL.e2 isntD (eVar 4) (eC .non))) [some (.obj f), none, some r, none, some (fD (nm.bind fun k => fnd k L)), some (.lst [ans, fD fo', .bl sh'])] = some (fo'.isNone && (nm.bind fun k => fnd k L).isSome) := by
      refine and_v ?_ ?_
      · refine tB_val (x := .bl fo'.isNone) (e2_val (x := fD fo') (y := .non) (e2_val (x := .lst [ans, fD fo', .bl sh']) (y := .int 1) rfl rfl rfl) rfl ?_) rfl
        rcases fo' with _ | ⟨v, c, g⟩ <;> rfl
      · refine tB_val (x := .bl (nm.bind fun k => fnd k L).isSome) (e2_val (x := fD (nm.bind fun k => fnd k L)) (y := .non) rfl rfl ?_) rfl
        cases (nm.bind fun k => fnd k L) with
        | none => rfl
        | some q => obtain ⟨v, c, g⟩ := q; rfl
    have hnm : ∀ k, nm = some k → FL.e2 ixD (eVar 2) (eC (.int 1)) [some (.obj f), none, some r, none, some (fD (nm.bind fun k => fnd k L)), some (.lst [ans, fD fo', .bl sh'])] = some (.str k) := fun k e => by
      refine e2_val (x := r) (y := .int 1) rfl rfl ?_
      cases hr <;> cases e <;> rfl
    have fin : ∀ S', mForget [0, 2, 4] (mSeq (mPure (sRet (FL.e2 ixD (eVar 5) (eC (.int 0))))) mNil) [some (.obj f), none, some r, none, some (fD (nm.bind fun k => fnd k L)), some (.lst [ans, fD fo', .bl sh'])] S' = some (.rt ans S') := fun S' => w_fg (w_retP (e2_val (x := .lst [ans, fD fo', .bl sh']) (y := .int 0) rfl rfl rfl))
    cases nm with
    | none =>
      have e2 : fo' = none := hn rfl
      subst e2
      refine w_f (qTp_val t1) (w_nil (w_f (qTp_val t2) (w_nil ?_)))
      refine (fin _).trans ?_
      show some (MOut.rt ans (S.set c (hi [.bl sh']))) = some (MOut.rt ans ((S.set c (hi [.bl sh'])).set f (dic L)))
      rw [set_id h1']
    | some k =>
      rcases fo' with _ | f'
      · refine w_f (qTp_val t1) (w_nil ?_)
        cases hk : fnd k L with
        | none =>
          refine w_f (qTp_val (t2.trans (by show some (true && (fnd k L).isSome) = _; rw [hk]; rfl))) (w_nil ?_)
          refine (fin _).trans ?_
          show some (MOut.rt ans (S.set c (hi [.bl sh']))) = some (MOut.rt ans ((S.set c (hi [.bl sh'])).set f (dic (del k L))))
          rw [del_none hk, set_id h1']
        | some q0 =>
          refine w_t (qTp_val (t2.trans (by show some (true && (fnd k L).isSome) = _; rw [hk]; rfl))) (w_as ?_)
          refine w_popD (k := k) (t := f) (ob := dic L) (hnm k rfl) rfl h1' ⟨rfl, by show dhas k (ksL L) = true; rw [dhas_L, hk]; rfl⟩ (w_nil ?_)
          refine (fin _).trans ?_
          show some (MOut.rt ans ((S.set c (hi [.bl sh'])).set f ⟨.dic, "", ddelK k (ksL L), ddelX k (ksL L) (xsL L)⟩)) = _
          rw [ddelK_L, ddelX_L]
          rfl
      · cases hqv : q with
        | true =>
          have e3 : fnd k L = some f' := hq2.mp hqv
          refine w_f (qTp_val (t1.trans (by rw [hqv]; rfl))) (w_nil (w_f (qTp_val t2) (w_nil ?_)))
          refine (fin _).trans ?_
          show some (MOut.rt ans (S.set c (hi [.bl sh']))) = some (MOut.rt ans ((S.set c (hi [.bl sh'])).set f (dic (ins k f' L))))
          rw [ins_same hL e3, set_id h1']
        | false =>
          refine w_t (qTp_val (t1.trans (by rw [hqv]; rfl))) (w_as ?_)
          refine w_putD (k := k) (t := f) (ob := dic L) (d := fD (some f')) (S1 := S.set c (hi [.bl sh'])) (qPure_val (e2_val (x := .lst [ans, fD (some f'), .bl sh']) (y := .int 1) rfl rfl rfl)) (hnm k rfl) rfl h1' ⟨rfl, by show (ksL L).length < 1000; simp [ksL]; omega⟩ (w_nil ?_)
          refine w_f (qTp_val t2) (w_nil ?_)
          refine (fin _).trans ?_
          show some (MOut.rt ans ((S.set c (hi [.bl sh'])).set f ⟨.dic, "", dputK (ksL L) k, dputX k (fD (some f')) (ksL L) (xsL L)⟩)) = _
          rw [dputK_L k f', dputX_L]
          rfl
  cases nm with
  | none =>
    refine w_f (qTp_val (tB_val (x := .bl false) (e2_val (x := .str kd) (y := .lst [.str "shut", .str "isshut"]) rfl rfl kne.2.1) rfl)) (w_nil ?_)
    exact cont .non rfl
  | some k =>
    refine w_t (qTp_val (tB_val (x := .bl true) (e2_val (x := .str kd) (y := .lst [.str "shut", .str "isshut"]) rfl rfl kne.2.1) rfl)) (w_as ?_)
    refine w_oset (d := fD (fnd k L)) (S1 := S) (qLk_val ?_ (noIn_fD _)) (w_nil (cont _ rfl))
    show FL.e2 dgetND (eVar 0) _ ([shE S (some (.obj f)), shE S (some (.obj c)), shE S (some r), shE S (some (.str kd)), shE S (some .non), none] : FL.Env) = _
    rw [shd_dic h1, sh_req hr]
    refine e2_val (x := .dct (ksL L) (xsL L)) (y := nmD (some k)) rfl (e2_val (x := r) (y := .int 1) rfl rfl ?_) (dgetN_L (some k))
    cases hr <;> rfl
end
/-! ### k12: the law -/
theorem rows_loop {X b c d e f g h i j k : Option D} {F : FL2 → Option D} : ∀ (rows L : FL2) (z : Option D), L.length + rows.length < 1000 → ∃ z', mLoop (gSet 3) (mSeq (mPutD 2 (FL.e2 ixD (eVar 3) (eC (.int 0))) (qPure (eL tupD (aCons (FL.e2 ixD (eVar 3) (eC (.int 1))) (aCons (FL.e2 ixD (eVar 3) (eC (.int 2))) (aCons (FL.e2 ixD (eVar 3) (eC (.int 3))) aNil))))))
    mNil) (rows.map rowD) [X, b, some (.obj 0), z, d, e, f, g, h, i, j, k, c] [dic L] = some (.nx [X, b, some (.obj 0), z', d, e, f, g, h, i, j, k, c] [dic (insAll rows L)])
  | [], L, z, _ => ⟨z, rfl⟩
  | p :: rows, L, z, hl => by
    obtain ⟨kk, v, cc, gg⟩ := p
    have hlk : (ksL L).length = L.length := by simp [ksL]
    have := len_ins (k := kk) (f := (v, cc, gg)) (L := L)
    simp only [List.length_cons] at hl
    obtain ⟨z', hz⟩ := rows_loop (X := X) (b := b) (c := c) (d := d) (e := e) (f := f) (g := g) (h := h) (i := i) (j := j) (k := k) (F := F) rows (ins kk (v, cc, gg) L) (some (rowD (kk, (v, cc, gg)))) (by omega)
    refine ⟨z', ?_⟩
    show mLoop _ _ (rowD (kk, (v, cc, gg)) :: rows.map rowD) _ _ = some (.nx _ [dic (insAll rows (ins kk (v, cc, gg) L))])
    unfold mLoop
    rw [show gSet 3 (rowD (kk, (v, cc, gg))) [X, b, some (.obj 0), z, d, e, f, g, h, i, j, k, c] = some [X, b, some (.obj 0), some (rowD (kk, (v, cc, gg))), d, e, f, g, h, i, j, k, c] from rfl]
    dsimp only
    have st : mSeq (mPutD 2 (FL.e2 ixD (eVar 3) (eC (.int 0))) (qPure (eL tupD (aCons (FL.e2 ixD (eVar 3) (eC (.int 1))) (aCons (FL.e2 ixD (eVar 3) (eC (.int 2))) (aCons (FL.e2 ixD (eVar 3) (eC (.int 3))) aNil))))))
        mNil [X, b, some (.obj 0), some (rowD (kk, (v, cc, gg))), d, e, f, g, h, i, j, k, c] [dic L] = some (.nx [X, b, some (.obj 0), some (rowD (kk, (v, cc, gg))), d, e, f, g, h, i, j, k, c] [dic (ins kk (v, cc, gg) L)]) := by
      refine w_putD (k := kk) (t := 0) (ob := dic L) (d := fD (some (v, cc, gg))) (S1 := [dic L]) (by kernel_rfl) (by kernel_rfl) rfl rfl ⟨rfl, by show (ksL L).length < 1000; omega⟩ ?_
      show some (MOut.nx _ [(⟨.dic, "", dputK (ksL L) kk, dputX kk (fD (some (v, cc, gg))) (ksL L) (xsL L)⟩ : Ob)]) = _
      rw [dputK_L kk (v, cc, gg), dputX_L]
      rfl
    rw [st]
    dsimp only
    exact hz
theorem mNewM_val {c : Str} {n : Nat} {mir : List D → List Ob → Option (D × List Ob)} {df ds : List D} {A : FL.Env → List Ob → Option (List D × List Ob)} {ρ : FL.Env} {S S1 S2 : List Ob} (h : A ρ S = some (ds, S1)) (hn : (ds ++ df).length = n) (hm : mir (.obj S1.length :: (ds ++ df)) (S1 ++ [⟨.ins, c, [], []⟩]) = some (.non, S2)) : mNewM c n mir df A ρ S = some (.obj S1.length, S2) := by
  unfold mNewM
  rw [h]
  dsimp only
  rw [if_pos hn, hm]
theorem w_mut0 {i t : Nat} {f : List D → List D → Option (List D)} {G : FL.Env → List Ob → Option MOut} {ρ : FL.Env} {S : List Ob} {o : Option MOut} {ob : Ob} {ys : List D} (h1 : ρ[i]? = some (some (.obj t))) (h2 : S[t]? = some ob) (h3 : ob.k = .lst) (h4 : f ob.xs [] = some ys) (k : G ρ (setL S t ys) = o) : mSeq (mMut0 i f) G ρ S = o := by
  unfold mSeq mMut0
  rw [h1]
  dsimp only
  rw [h2]
  dsimp only
  rw [if_pos h3, h4]
  exact k
theorem law_true (ns : List Int) (_ : ns.length ≤ 63) : ∃ S', m_law [.klst (ns.map D.int)] [] = some (.bl true, S') := by
  have a0 : m__law_cell [scr ns, .int 0] = some (.int (ns.getD 0 0)) := cell_eq ns 0
  have a1 : m__law_cell [scr ns, .int 1] = some (.int (ns.getD 1 0)) := cell_eq ns 1
  have a2 : m__law_cell [scr ns, .int 2] = some (.int (ns.getD 2 0)) := cell_eq ns 2
  obtain ⟨d9, hd9, hl9, _⟩ := draws_form (ns.getD 0 0) 9 (by omega)
  have hd9' : m__law_draws [.int (ns.getD 0 0), .int 9] = some (.lst (d9.map D.int)) := hd9
  obtain ⟨rows, hrows, hr8, hrl⟩ := starts_form d9 hl9
  obtain ⟨m, hm, hm41⟩ : ∃ m : Nat, ns.getD 1 0 / 2 % 41 = (m : Int) ∧ m < 41 := ⟨(ns.getD 1 0 / 2 % 41).toNat, by omega, by omega⟩
  obtain ⟨ds, hd, hl, _⟩ := draws_form (ns.getD 2 0) m (by omega)
  have hd' : m__law_draws [.int (ns.getD 2 0), .int (m : Int)] = some (.lst (ds.map D.int)) := hd
  obtain ⟨w, hw, hw'⟩ : ∃ w : Int, (w = 8 ∨ w = 3) ∧ ixD (.lst [.int 8, .int 3]) (.int (ns.getD 1 0 % 2)) = some (.int w) := by
    have h : ns.getD 1 0 % 2 = 0 ∨ ns.getD 1 0 % 2 = 1 := by omega
    rcases h with h | h <;> rw [h]
    · exact ⟨8, .inl rfl, by kernel_rfl⟩
    · exact ⟨3, .inr rfl, by kernel_rfl⟩
  show ∃ S', m_law [scr ns] [] = _
  generalize scr ns = X at a0 a1 a2 ⊢
  generalize ns.getD 0 0 = z0 at a0 hd9'
  generalize ns.getD 1 0 = z1 at a1 hm hw'
  generalize ns.getD 2 0 = z2 at a2 hd'
  clear hd hd9
  have cell : ∀ (ρ : FL.Env) (c : D) (z : Int), ρ[0]? = some (some X) → m__law_cell [X, c] = some (.int z) → eL (mL 2 m__law_cell) (aCons (eVar 0) (aCons (eC c) aNil)) ρ = some (.int z) := fun ρ c z h1 h2 => eL_val (ds := [X, c]) (aCons_val (var_v h1) rfl) (mL_val rfl h2)
  have hN0 : (ksL (insAll rows [])).Nodup := insAll_nodup (by show ([] : List Str).Nodup; exact .nil)
  have hL0 : (insAll rows []).length ≤ 8 := by have := insAll_len (rows := rows) (L := []); simp at this; omega
  obtain ⟨zr, hlr⟩ := rows_loop (X := some X) (b := some (.lst (rows.map rowD))) (c := none) (d := none) (e := none) (f := none) (g := none) (h := none) (i := none) (j := none) (k := none) (F := fun _ => none) rows [] none (by simp; omega)
  obtain ⟨ρ', S', h1, L, sh, hs, z9, z10, z11, rfl, rfl, hN, hLl, hT, hhl⟩ := mloop_nx (g := gSet 9) (G := (mSeq (mPure (sSet 10 (eL (mL 2 m__law_request) (aCons (eVar 9) (aCons (eVar 7) aNil)))))
    (mSeq (mSet 11 (mCall 3 m__law_does (qCons (qPure (eVar 2)) (qCons (qPure (eVar 4)) (qCons (qPure (eVar 10)) qNil)))))
    (mSeq (mIf (qNot (qBl (mCall 2 (pMir (m__law_is_same 6)) (qCons (mMe "Thing" "ask" 2 m_Thing_ask (eVar 6) (qPureA (aCons (eVar 10) aNil))) (qCons (qPure (eVar 11)) qNil)))))
      (mSeq (mPure (sRet (eC (.bl false))))
    mNil)
      mNil)
    (mSeq (mPure (sMut 8 appendF (aCons (eL tupD (aCons (eVar 10) (aCons (eVar 11) aNil))) aNil)))
    mNil))))) (I := fun i ρ S => ∃ (L : FL2) (sh : Bool) (hs : List D) (z9 z10 z11 : Option D), ρ = [some X, none, some (.obj 0), none, some (.obj 1), none, some (.obj 3), some (.int w), some (.lst hs), z9, z10, z11, none] ∧ S = [dic L, hi [.bl sh], hi [], th 4 L sh, hi hs] ∧ (ksL L).Nodup ∧ L.length ≤ 8 + i ∧ Told hs ∧ hs.length = i) (ds.map D.int) 0 [some X, none, some (.obj 0), none, some (.obj 1), none, some (.obj 3), some (.int w), some (.lst []), none, none, none, none] [dic (insAll rows []), hi [.bl false], hi [], th 4 (insAll rows []) false, hi []] (fun i ρ S d h hd => by
      obtain ⟨L, sh, hs, z9, z10, z11, rfl, rfl, hN, hLl, hT, hhl⟩ := h
      have hil : i < ds.length := by
        have := (List.getElem?_eq_some_iff.mp hd).1
        simpa using this
      rw [List.getElem?_map, List.getElem?_eq_getElem hil] at hd
      cases hd
      rw [Nat.zero_add] at hLl hhl
      obtain ⟨r, hr, hr2⟩ := request_form ds[i] w hw
      refine ⟨[some X, none, some (.obj 0), none, some (.obj 1), none, some (.obj 3), some (.int w), some (.lst hs), some (.int ds[i]), z10, z11, none], ?_⟩
      have step : ∀ (ans : D) (L' : FL2) (sh' : Bool), m__law_does [.obj 0, .obj 1, r] [dic L, hi [.bl sh], hi [], th 4 L sh, hi hs] = some (ans, [dic L', hi [.bl sh'], hi [], th 4 L sh, hi hs]) →
          m_Thing_ask [.obj 3, r] [dic L', hi [.bl sh'], hi [], th 4 L sh, hi hs] = some (ans, [dic L', hi [.bl sh'], hi [], th 4 L' sh', hi (hs ++ [.tup [r, ans]])]) → okS 4 ans = true → noIns ans = true → okS 4 r = true → noIns r = true → (ksL L').Nodup → L'.length ≤ 8 + (i + 1) → ∃ ρ2 S2, gSet 9 (.int ds[i]) [some X, none, some (.obj 0), none, some (.obj 1), none, some (.obj 3), some (.int w), some (.lst hs), z9, z10, z11, none] = some [some X, none, some (.obj 0), none, some (.obj 1), none, some (.obj 3), some (.int w), some (.lst hs), some (.int ds[i]), z10, z11, none] ∧ (mSeq (mPure (sSet 10 (eL (mL 2 m__law_request) (aCons (eVar 9) (aCons (eVar 7) aNil)))))
    (mSeq (mSet 11 (mCall 3 m__law_does (qCons (qPure (eVar 2)) (qCons (qPure (eVar 4)) (qCons (qPure (eVar 10)) qNil)))))
    (mSeq (mIf (qNot (qBl (mCall 2 (pMir (m__law_is_same 6)) (qCons (mMe "Thing" "ask" 2 m_Thing_ask (eVar 6) (qPureA (aCons (eVar 10) aNil))) (qCons (qPure (eVar 11)) qNil)))))
      (mSeq (mPure (sRet (eC (.bl false))))
    mNil)
      mNil)
    (mSeq (mPure (sMut 8 appendF (aCons (eL tupD (aCons (eVar 10) (aCons (eVar 11) aNil))) aNil)))
    mNil)))) [some X, none, some (.obj 0), none, some (.obj 1), none, some (.obj 3), some (.int w), some (.lst hs), some (.int ds[i]), z10, z11, none] [dic L, hi [.bl sh], hi [], th 4 L sh, hi hs] = some (.nx ρ2 S2) ∧ (∃ (L : FL2) (sh : Bool) (hs : List D) (z9 z10 z11 : Option D), ρ2 = [some X, none, some (.obj 0), none, some (.obj 1), none, some (.obj 3), some (.int w), some (.lst hs), z9, z10, z11, none] ∧ S2 = [dic L, hi [.bl sh], hi [], th 4 L sh, hi hs] ∧ (ksL L).Nodup ∧ L.length ≤ 8 + (0 + i + 1) ∧ Told hs ∧ hs.length = 0 + i + 1) := fun ans L' sh' hdoes hask ok ni okr nir hN' hL' => by
        refine ⟨[some X, none, some (.obj 0), none, some (.obj 1), none, some (.obj 3), some (.int w), some (.lst (hs ++ [.tup [r, ans]])), some (.int ds[i]), some r, some ans, none], [dic L', hi [.bl sh'], hi [], th 4 L' sh', hi (hs ++ [.tup [r, ans]])], rfl, ?_, L', sh', hs ++ [.tup [r, ans]], _, _, _, rfl, rfl, hN', by omega, hT.add okr ok nir ni, by simp; omega⟩
        refine w_set (d := r) (eL_val (ds := [.int ds[i], .int w]) rfl (mL_val rfl hr)) ?_
        refine w_oset (d := ans) (S1 := [dic L', hi [.bl sh'], hi [], th 4 L sh, hi hs]) (mCall_val (ds := [.obj 0, .obj 1, r]) rfl rfl hdoes) ?_
        refine w_f (qNot_val (b := true) (qBl_val (mCall_val (ds := [ans, ans]) (S1 := [dic L', hi [.bl sh'], hi [], th 4 L' sh', hi (hs ++ [.tup [r, ans]])]) (qCons_val (mMe_val (ds := [r]) (ob := th 4 L sh) rfl rfl ⟨rfl, rfl, by kernel_rfl⟩ rfl rfl hask) (qCons_val (qPure_val rfl) rfl)) rfl (pMir_val (same_ok ok))))) (w_nil ?_)
        refine w_pure (ρ' := [some X, none, some (.obj 0), none, some (.obj 1), none, some (.obj 3), some (.int w), some (.lst (hs ++ [.tup [r, ans]])), some (.int ds[i]), some r, some ans, none]) ?_ rfl
        unfold sMut
        show (match appendF hs [.tup [r, ans]] with | some ys => _ | none => none) = _
        have e : appendF hs [.tup [r, ans]] = some (hs ++ [.tup [r, ans]]) := by
          unfold appendF
          dsimp only
          rw [if_pos (by show hs.length < sizeLine; rw [sizeLine_eq]; omega)]
        rw [e]
        rfl
      rcases hr2 with rfl | ⟨nm, hr2⟩
      · exact step (.tup ((ksL L).map D.str)) L sh (does_names rfl) (ask_names (S := [dic L, hi [.bl sh], hi [], th 4 L sh, hi hs]) (i := 3) (j := 4) rfl rfl hT.ev (by omega)) (okS_names L (by omega)) (noIn_strsL _) rfl rfl hN (by omega)
      · obtain ⟨ans, fo', sh', A, hn⟩ := act_of hr2 (nm.bind fun k => fnd k L) sh
        have hu : (ksL (newL L nm fo')).Nodup ∧ (newL L nm fo').length ≤ L.length + 1 := by
          cases nm with
          | none => exact ⟨hN, Nat.le_succ _⟩
          | some k => exact ⟨nodup_upd hN, len_upd⟩
        exact step ans (newL L nm fo') sh' (does_v (S := [dic L, hi [.bl sh], hi [], th 4 L sh, hi hs]) (f := 0) (c := 1) rfl rfl (by decide) hN (by omega) hr2 A hn) (ask_v (S := [dic (newL L nm fo'), hi [.bl sh'], hi [], th 4 L sh, hi hs]) (i := 3) (j := 4) rfl rfl (by decide) hT.ev hN (by omega) (by omega) hr2 A) A.ok A.ni (req_ok hr2).1 (req_ok hr2).2 hu.1 (by omega)) ⟨insAll rows [], false, [], none, none, none, rfl, rfl, hN0, by omega, fun _ h => (nomatch h), rfl⟩
  rw [Nat.zero_add, List.length_map] at hLl hhl
  have hnames : okS 4 (.tup ((ksL L).map D.str)) = true := okS_names L (by omega)
  refine ⟨[dic L, hi [.bl sh], hi [], th 4 L sh, hi (hs ++ [.tup [.tup [.str "names"], .tup ((ksL L).map D.str)]]), hi (hs ++ [.non])], runM_rt ?_⟩
  unfold G_law
  refine w_set (d := .lst (rows.map rowD)) (eL_val (ds := [.lst (d9.map D.int)]) (aCons_val (eL_val (ds := [.int z0, .int 9]) (aCons_val (cell _ _ _ rfl a0) rfl) (mL_val rfl hd9')) rfl) (mL_val rfl hrows)) ?_
  refine w_oset (d := .obj 0) (S1 := [dic []]) rfl ?_
  refine w_for (ds := rows.map rowD) (S1 := [dic []]) rfl hlr (w_fg ?_)
  refine w_oset (d := .obj 1) (S1 := [dic (insAll rows []), hi [.bl false]]) rfl ?_
  refine w_oset (d := .obj 2) (S1 := [dic (insAll rows []), hi [.bl false], hi (rows.map rowD)]) ?_ (w_fg ?_)
  · unfold mLst
    rw [eL_val (f := listOf) (ds := [.lst (rows.map rowD)]) (o := some (.lst (rows.map rowD))) rfl rfl]
    rfl
  refine w_oset (d := .obj 3) (S1 := [dic (insAll rows []), hi [.bl false], hi (rows.map rowD), th 4 (insAll rows []) false, hi []]) ?_ ?_
  · exact mNewM_val (ds := [.obj 2]) (S1 := [dic (insAll rows []), hi [.bl false], hi (rows.map rowD)]) rfl rfl (new_thing (S := [dic (insAll rows []), hi [.bl false], hi (rows.map rowD)]) (t := 2) (rows := rows) rfl (by omega))
  refine w_mut0 (t := 2) (ob := hi (rows.map rowD)) (ys := []) rfl rfl rfl rfl (w_fg ?_)
  refine w_set (d := .int w) (e2_val (x := .lst [.int 8, .int 3]) (y := .int (z1 % 2)) rfl (mod_v 2 (by decide) (cell _ _ _ rfl a1)) hw') ?_
  refine w_set (d := .lst []) rfl ?_
  refine w_for (ds := ds.map D.int) (S1 := [dic (insAll rows []), hi [.bl false], hi [], th 4 (insAll rows []) false, hi []]) (jPure_val ?_) h1 (w_fg ?_)
  · have e : eL (mL 2 m__law_draws) (aCons (eL (mL 2 m__law_cell) (aCons (eVar 0) (aCons (eC (.int 2)) aNil))) (aCons (FL.e2 modD (FL.e2 fdivD (eL (mL 2 m__law_cell) (aCons (eVar 0) (aCons (eC (.int 1)) aNil))) (eC (.int 2))) (eC (.int 41))) aNil)) [some X, none, some (.obj 0), none, some (.obj 1), none, some (.obj 3), some (.int w), some (.lst []), none, none, none, none] = some (.lst (ds.map D.int)) := by
      refine eL_val (ds := [.int z2, .int (m : Int)]) (aCons_val (cell _ _ _ rfl a2) (aCons_val ?_ rfl)) (mL_val rfl hd')
      rw [← hm]
      exact mod_v 41 (by decide) (fdiv_v 2 (by decide) (cell _ _ _ rfl a1))
    unfold iSeq
    show (match eL _ _ [some X, none, some (.obj 0), none, some (.obj 1), none, some (.obj 3), some (.int w), some (.lst []), none, none, none, none] with | some d => _ | none => none) = _
    rw [e]
    rfl
  have shT : ∀ (hs2 : List D) (u : List Ob), EvT hs2 → shE ([dic L, hi [.bl sh], hi [], th 4 L sh, hi hs2] ++ u) (some (.obj 3)) = some (thD hs2 L sh) := fun hs2 u he => shd_thing (i := 3) (j := 4) rfl rfl he
  have shL : ∀ (S : List Ob) (hs2 : List D), shE S (some (.lst hs2)) = some (.lst hs2) := fun _ _ => rfl
  refine w_oset (d := .obj 5) (S1 := [dic L, hi [.bl sh], hi [], th 4 L sh, hi hs, hi hs]) (qLkL_val (S := [dic L, hi [.bl sh], hi [], th 4 L sh, hi hs]) (xs := hs) ?_ hT.noInss) ?_
  · show eP "Thing" m_Thing_history (eVar 6) [none, none, _, none, none, none, shE ([dic L, hi [.bl sh], hi [], th 4 L sh, hi hs] ++ []) (some (.obj 3)), none, _, none, none, none, none] = _
    rw [shT hs [] hT.ev]
    show (if ("Thing" : Str) = "Thing" then m_Thing_history [thD hs L sh] else none) = _
    rw [if_pos rfl]
    exact history_v L sh (by omega)
  have sh5 : shE [dic L, hi [.bl sh], hi [], th 4 L sh, hi hs, hi hs] (some (.obj 5)) = some (.lst hs) := by
    show some (D.lst (hs.map _)) = _
    rw [map_shd hT.ev]
  refine w_f (qTl_val (b := false) ?_) (w_nil ?_)
  · refine not_val (b := true) (tB_val (x := .bl true) (eL_val (ds := [.lst hs, .lst hs]) (aCons_val ?_ rfl) (mL_val rfl (hT.same (by omega)))) rfl)
    exact var_v (k := 12) (congrArg some sh5)
  refine w_mut (t := 5) (ob := hi hs) (ob1 := hi hs) (ds := [.non]) (ys := hs ++ [.non]) rfl rfl rfl rfl rfl rfl ?_ (w_fg ?_)
  · unfold appendF
    dsimp only
    rw [if_pos (by show hs.length < sizeLine; rw [sizeLine_eq]; omega)]
    rfl
  have nm : m_Thing_ask [.obj 3, .tup [.str "names"]] [dic L, hi [.bl sh], hi [], th 4 L sh, hi hs, hi (hs ++ [.non])] = some (.tup ((ksL L).map D.str), [dic L, hi [.bl sh], hi [], th 4 L sh, hi (hs ++ [.tup [.tup [.str "names"], .tup ((ksL L).map D.str)]]), hi (hs ++ [.non])]) := ask_names (S := [dic L, hi [.bl sh], hi [], th 4 L sh, hi hs, hi (hs ++ [.non])]) (i := 3) (j := 4) rfl rfl hT.ev (by omega)
  have kk : ∀ (S : List Ob) (ρ : FL.Env), (ρ.map (shE S))[2]? = some (shE S (some (.obj 0))) → S[0]? = some (dic L) → eL tupOf (aCons (eLstD (eVar 2)) aNil) (ρ.map (shE S)) = some (.tup ((ksL L).map D.str)) := fun S ρ h h0 => by
    rw [shd_dic h0] at h
    refine eL_val (ds := [.lst ((ksL L).map D.str)]) (aCons_val ?_ rfl) rfl
    unfold eLstD
    rw [var_v h]
  refine w_f (qNot_val (b := true) (qBl_val (mCall_val (ds := [.tup ((ksL L).map D.str), .tup ((ksL L).map D.str)]) (S1 := [dic L, hi [.bl sh], hi [], th 4 L sh, hi (hs ++ [.tup [.tup [.str "names"], .tup ((ksL L).map D.str)]]), hi (hs ++ [.non])]) (qCons_val (mMe_val (ds := [.tup [.str "names"]]) (ob := th 4 L sh) rfl rfl ⟨rfl, rfl, by kernel_rfl⟩ rfl rfl nm) (qCons_val (qLk_val (kk _ _ rfl rfl) (noIn_strsL _)) rfl)) rfl (pMir_val (same_ok hnames))))) (w_nil ?_)
  have hT2 : Told (hs ++ [.tup [.tup [.str "names"], .tup ((ksL L).map D.str)]]) := hT.add rfl hnames rfl (noIn_strsL _)
  have cat : addD (.lst hs) (.lst [.tup [.tup [.str "names"], .tup ((ksL L).map D.str)]]) = some (.lst (hs ++ [.tup [.tup [.str "names"], .tup ((ksL L).map D.str)]])) := by
    show (if hs.length + 1 ≤ sizeLine then _ else none) = _
    rw [sizeLine_eq, if_pos (by omega)]
  refine w_ret (qLk_val (d := .bl true) ?_ rfl)
  refine eL_val (ds := [.lst (hs ++ [.tup [.tup [.str "names"], .tup ((ksL L).map D.str)]]), .lst (hs ++ [.tup [.tup [.str "names"], .tup ((ksL L).map D.str)]])]) (aCons_val ?_ (aCons_val (e2_val (x := .lst hs) (y := .lst [.tup [.tup [.str "names"], .tup ((ksL L).map D.str)]]) rfl (eL_val (ds := [.tup [.tup [.str "names"], .tup ((ksL L).map D.str)]]) (aCons_val (eL_val (ds := [.tup [.str "names"], .tup ((ksL L).map D.str)]) (aCons_val rfl (aCons_val (kk _ _ rfl rfl) rfl)) rfl) rfl) rfl) cat) rfl)) (mL_val rfl (hT2.same (by simp; omega)))
  show eP "Thing" m_Thing_history (eVar 6) [_, none, _, none, none, none, shE ([dic L, hi [.bl sh], hi [], th 4 L sh, hi (hs ++ [.tup [.tup [.str "names"], .tup ((ksL L).map D.str)]])] ++ [hi (hs ++ [.non])]) (some (.obj 3)), none, _, none, none, none, none] = _
  rw [shT _ _ hT2.ev]
  show (if ("Thing" : Str) = "Thing" then m_Thing_history [thD _ L sh] else none) = _
  rw [if_pos rfl]
  exact history_v L sh (by simp; omega)
end LW
namespace LW
open PySem PySem.Spec PyProof.Rows L2 FL
def fn : List He.DefD := [⟨("_reading", none), "_reading", "_reading", defArgs s__reading, defBody s__reading, defScope s__reading, [], []⟩, ⟨("_can_replace", none), "_can_replace", "_can_replace", defArgs s__can_replace, defBody s__can_replace, defScope s__can_replace, [], []⟩, ⟨("_is_done", none), "_is_done", "_is_done", defArgs s__is_done, defBody s__is_done, defScope s__is_done, [], []⟩, ⟨("_field_after", none), "_field_after", "_field_after", defArgs s__field_after, defBody s__field_after, defScope s__field_after, [], []⟩, ⟨("act", none), "act", "act", defArgs s_act, defBody s_act, defScope s_act, [], []⟩, ⟨("Recorded", some "__init__"), "__init__", "Recorded.__init__", defArgs s_Recorded___init__, defBody s_Recorded___init__, defScope s_Recorded___init__, [], []⟩, ⟨("_with_field", none), "_with_field", "_with_field", defArgs s__with_field, defBody s__with_field, defScope s__with_field, [], []⟩, ⟨("Thing", some "__init__"), "__init__", "Thing.__init__", defArgs s_Thing___init__, defBody s_Thing___init__, defScope s_Thing___init__, [.adr (He.dflAt ("Thing", some "__init__") 0)], []⟩, ⟨("Thing", some "_done"), "_done", "Thing._done", defArgs s_Thing__done, defBody s_Thing__done, defScope s_Thing__done, [], []⟩, ⟨("Thing", some "_keep"), "_keep", "Recorded._keep", defArgs s_Thing__keep, defBody s_Thing__keep, defScope s_Thing__keep, [], []⟩, ⟨("Thing", some "ask"), "ask", "Thing.ask", defArgs s_Thing_ask, defBody s_Thing_ask, defScope s_Thing_ask, [], []⟩, ⟨("_law_cell", none), "_law_cell", "_law_cell", defArgs s__law_cell, defBody s__law_cell, defScope s__law_cell, [], []⟩, ⟨("_law_draws", none), "_law_draws", "_law_draws", defArgs s__law_draws, defBody s__law_draws, defScope s__law_draws, [], []⟩, ⟨("_law_defines", none), "_law_defines", "_law_defines", defArgs s__law_defines, defBody s__law_defines, defScope s__law_defines, [], []⟩, ⟨("_law_act", none), "_law_act", "_law_act", defArgs s__law_act, defBody s__law_act, defScope s__law_act, [], []⟩, ⟨("_law_spot", none), "_law_spot", "_law_spot", defArgs s__law_spot, defBody s__law_spot, defScope s__law_spot, [], []⟩, ⟨("_law_is_same", none), "_law_is_same", "_law_is_same", defArgs s__law_is_same, defBody s__law_is_same, defScope s__law_is_same, [], []⟩, ⟨("_law_request", none), "_law_request", "_law_request", defArgs s__law_request, defBody s__law_request, defScope s__law_request, [], []⟩, ⟨("_law_does", none), "_law_does", "_law_does", defArgs s__law_does, defBody s__law_does, defScope s__law_does, [], []⟩, ⟨("_law_starts", none), "_law_starts", "_law_starts", defArgs s__law_starts, defBody s__law_starts, defScope s__law_starts, [], []⟩, ⟨("law", none), "law", "law", defArgs s_law, defBody s_law, defScope s_law, [], []⟩]
def prs : List PrD := [("Thing", "history", ⟨("Thing", some "history"), "history", "Recorded.history", defArgs s_Thing_history, defBody s_Thing_history, defScope s_Thing_history, [], []⟩)]
def fa : List He.Fa := [.cls "Recorded", .glo "Recorded", .cls "Thing", .glo "Thing", .mkr "Thing", .noat "Thing" "_fields", .noat "Thing" "_history", .noat "Thing" "_shut", .glo "_reading", .glo "_can_replace", .glo "_is_done", .glo "_field_after", .glo "act", .glo "_with_field", .meth "Thing" "_done", .meth "Thing" "_keep", .meth "Thing" "ask", .glo "_law_cell", .glo "_law_draws", .glo "_law_defines", .glo "_law_act", .glo "_law_spot", .glo "_law_is_same", .glo "_law_request", .glo "_law_does", .glo "_law_starts", .glo "law", .free "bool", .free "int", .free "isinstance", .free "len", .free "list", .free "range", .free "str", .free "tuple"]
def ex (K : PySem.W.Frag) : Bool := cfnB K "Recorded" "__init__" && propB K "Thing" "history"
abbrev R : PySem.W.OpenRow := PySem.W.OpenLaw.row PySem.Challenge.rw_lyingstandins_k12_thing_rows
abbrev hk : PySem.W.Hook := hookP 6 fa fn ex [] prs
def ob (s : PySem.W.SharedT) : AlP := obsP 6 fa fn ex [] prs (HandSHeadRun.getT s)
theorem ob_eq (s : PySem.W.SharedT) : ob s = hk.obs s.abs := obsP_eq (HandSHeadRun.getT_eq s)
def loose : List PySem.Str := (["Deeds", "Recorded", "Refused", "StandInError", "Thing", "_can_replace", "_field_after", "_is_done", "_law_act", "_law_cell", "_law_defines", "_law_does", "_law_draws", "_law_is_same", "_law_request", "_law_spot", "_law_starts", "_reading", "_wall", "_with_field", "act"] : List PySem.Str)
theorem run (w : World) : HandSHeadRun.RunEq R (PySem.W.view R.prog [25]) hk ob 3000 loose w :=
  PySem.W.byRow2 "special-get-raises" (P := fun w => HandSHeadRun.RunEq R (PySem.W.view R.prog [25]) hk ob 3000 loose w) (fun w => by intro os; kernel_rfl) (fun w => by intro os; kernel_rfl) w
theorem tx {w : World} {K : PySem.W.Frag} {h : Heap} {mg : Str → Option Value} (X : K.In h) (G : h.Ns mainGlobals mg) (cc : SaysP fa fn ex [] prs w K) : TX K mg := by
  obtain ⟨c, cx⟩ := cc.1.1
  have cx' := cx
  simp only [ex, Bool.and_eq_true] at cx'
  exact ⟨He.cls_ok (c.fact 0 rfl), He.glo_ok X G (c.fact 1 rfl), He.cls_ok (c.fact 2 rfl), He.glo_ok X G (c.fact 3 rfl), He.mkr_ok (c.fact 4 rfl), He.noat_ok (c.fact 5 rfl), He.noat_ok (c.fact 6 rfl), He.noat_ok (c.fact 7 rfl), defAt_of c 0 rfl, He.glo_ok X G (c.fact 8 rfl), defAt_of c 1 rfl, He.glo_ok X G (c.fact 9 rfl), defAt_of c 2 rfl, He.glo_ok X G (c.fact 10 rfl), defAt_of c 3 rfl, He.glo_ok X G (c.fact 11 rfl), defAt_of c 4 rfl, He.glo_ok X G (c.fact 12 rfl), c.def_ 5 rfl, defAt_of c 6 rfl, He.glo_ok X G (c.fact 13 rfl), c.def_ 7 rfl, c.def_ 8 rfl, He.meth_ok (c.fact 14 rfl), c.def_ 9 rfl, He.meth_ok (c.fact 15 rfl), c.def_ 10 rfl, He.meth_ok (c.fact 16 rfl), getter_of cc 0 rfl, defAt_of c 11 rfl, He.glo_ok X G (c.fact 17 rfl), defAt_of c 12 rfl, He.glo_ok X G (c.fact 18 rfl), defAt_of c 13 rfl, He.glo_ok X G (c.fact 19 rfl), defAt_of c 14 rfl, He.glo_ok X G (c.fact 20 rfl), defAt_of c 15 rfl, He.glo_ok X G (c.fact 21 rfl), defAt_of c 16 rfl, He.glo_ok X G (c.fact 22 rfl), defAt_of c 17 rfl, He.glo_ok X G (c.fact 23 rfl), defAt_of c 18 rfl, He.glo_ok X G (c.fact 24 rfl), defAt_of c 19 rfl, He.glo_ok X G (c.fact 25 rfl), defAt_of c 20 rfl, He.glo_ok X G (c.fact 26 rfl), He.free_ok X G (c.fact 27 rfl), He.free_ok X G (c.fact 28 rfl), He.free_ok X G (c.fact 29 rfl), He.free_ok X G (c.fact 30 rfl), He.free_ok X G (c.fact 31 rfl), He.free_ok X G (c.fact 32 rfl), He.free_ok X G (c.fact 33 rfl), He.free_ok X G (c.fact 34 rfl), cx'.1, cx'.2⟩
theorem facts {P : Program} {w : World} {K : PySem.W.Frag} {h : Heap} {mg : Str → Option Value} {f : Addr} (X : K.In h) (G : h.Ns mainGlobals mg) (hfa : mg ("law" : Str) = some (.ref f)) (c : SaysP fa fn ex [] prs w K) :
    ∃ fd : FuncData, (∀ (s : Shared) (v : Value), BindsTo s fd ⟨[v], []⟩ [("_law_script", v)]) ∧ ∀ base : Heap, K.In base → base.Ns mainGlobals mg → FnOk P w K mg base CX0 8 f fd ["_law_script"] (spE K 1 m_law) := by
  have T : TX K mg := tx X G c
  have e := hfa.symm.trans T.g_law
  cases e
  obtain ⟨fd, F⟩ := T.d_law
  have b := FunD.bindsA (ps := ["_law_script"]) F fun _ _ _ _ _ _ us hl => match us, hl with | [_], _ => rfl
  exact ⟨fd, fun s v => b s [v] rfl, fun base _ _ => ok_law T F⟩
end LW
open PySem PySem.W PySem.Calls PyProof.Rows
set_option maxHeartbeats 0 in
theorem PySem.Challenge.cw_lyingstandins_k12_thing_rows_holds : PySem.Challenge.rw_lyingstandins_k12_thing_rows.Holds := by
  w_on; o_law
  refine HandSHeadRun.head_any (r := OpenLaw.row PySem.Challenge.rw_lyingstandins_k12_thing_rows) (q := view (OpenLaw.row PySem.Challenge.rw_lyingstandins_k12_thing_rows).prog [25]) (H := LW.hk) (ob := LW.ob) (M := 3000) (loose := LW.loose) (d := HandSHeadRun.topDef (OpenLaw.row PySem.Challenge.rw_lyingstandins_k12_thing_rows).prog 25) (kwd := []) LW.ob_eq
    (by kernel_rfl) (fun s => by kernel_rfl) LW.run (by kernel_rfl) (by kernel_rfl) (by kernel_rfl) (by rfl) (by first | assumption | decide +kernel) (by decide +kernel) ⟨rfl, rfl, rfl, rfl, rfl, by decide +kernel⟩ ?hw ?hc
  case hw => w_witness2
  case hc =>
    refine L2.walk_ofE (l := PySem.Challenge.rw_lyingstandins_k12_thing_rows) (n := 63) (k := 8) (x := "_law_script") (CX := L2.CX0) rfl (by decide) (by kernel_rfl) ⟨rfl, by decide, by decide⟩ ?F (fun _ _ _ _ z => z)
    intro w mg fa h Y G hmg0
    obtain ⟨K, KX, c⟩ := Y
    have hmg : mg ("law" : PySem.Str) = some (.ref fa) := by
      have e : (HandSHeadRun.topDef (OpenLaw.row PySem.Challenge.rw_lyingstandins_k12_thing_rows).prog 25).name = ("law" : PySem.Str) := by kernel_rfl
      rw [← e]
      exact hmg0
    obtain ⟨fd, hb, hF⟩ := LW.facts (P := (PySem.Challenge.rw_lyingstandins_k12_thing_rows).prog) (w := w) KX G hmg c
    exact ⟨K, fd, FL.spE K 1 LW.m_law, KX, hb, FL.law_spE LW.law_true, hF⟩
