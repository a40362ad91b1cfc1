import PyProof.Rows.All
import Wide.All
import OpenK.AllK
import Wide.FinOn
import HandS.ForMost
import HandS.ForExc
import HandS.CallSlots
import HandS.Flow
import HandS.TupLe
import HandS.Wide
import HandS.Property
import HandS.Defaults
import HandS.More
import HandS.IsInst
import HandS.WideBits
import HandS.Style
import HandS.Deep
import HandS.SortInts
import HandS.ClsMeth
import HandS.Walk
import HandS.TupSets
import HandS.ExcField
import HandS.ExcIs
import HandS.ExcInit
import HandS.ExcValue
import KE.KExcIs
import HandS.OwnEq
import HandS.RaiseMore
import PyProof.ReprRoads
import PySem.Challenge.RW_reissue_k30_rules_made_and_compared
import HandS.Ends
import Open.Row
import KE.RegKIsAll
import KE.RegKTryMore
set_option Elab.async false
set_option linter.all false
set_option maxRecDepth 100000
set_option maxHeartbeats 4000000
/-! PVa: values as trees. D: what is read and never written any more; O: what one name alone holds and may be written. Im, Ow: how they lie in the heap. -/
namespace PV
open PySem L2

inductive D where
  | non | bl (b : Bool) | int (i : Int) | str (s : Str)
  | lst (xs : List D) | tup (xs : List D) | dct (kvs : List (Key × D))
  | ins (c : Nat) (fs : List (Str × D)) | exc (c : Nat) (fs : List (Str × D))
  | ty (n : String) | cls (c : Nat)
  /-- a list of ints that may stand in the written part: what the law is handed -/
  | scr (ns : List Int)
  deriving Inhabited
inductive O where
  | im (d : D) | ls (xs : List O) | ob (c : Nat) (ns : List Str) (os : List O)
  deriving Inhabited
mutual
def O.d : O → D
  | .im d => d
  | .ls xs => .lst (O.ds xs)
  | .ob c ns os => .ins c (ns.zip (O.ds os))
def O.ds : List O → List D
  | [] => []
  | x :: xs => x.d :: O.ds xs
end
theorem O.ds_map : ∀ xs : List O, O.ds xs = xs.map O.d
  | [] => by rw [O.ds]; rfl
  | x :: xs => by rw [O.ds, O.ds_map xs]; rfl

/-- the program's classes: where the i-th stands -/
structure Cl where
  K : PySem.W.Frag
  pl : Nat → Addr
/-- an exception's object, held -/
def xO (cls : Value) (d : Option Addr) (a : Addr) : HO := .ext fun h => ∃ (oe : Obj) (vs : Array Value), h.get? a = some oe ∧ Zc cls d oe ∧ oe.data = .fields vs
def LsAt (_G : Cl) (H : Hp) (L : Addr → Prop) (a : Addr) (vs : List V) : Prop := Rd H a (.lst vs) ∧ ¬ L a
section
variable (G : Cl) (H : Hp) (L : Addr → Prop)
def LsK (a : Addr) (vs : List V) : Prop := (Rd H a (.lst vs) ∧ ¬ L a) ∨ SqL G.K (fun _ => none) a vs
def TpAt (a : Addr) (vs : List V) : Prop := (Rd H a (.tup vs) ∧ ¬ L a) ∨ SqT G.K (fun _ => none) a vs
mutual
/-- v is read as d; nothing on the way is in L -/
inductive Im : V → D → Prop
  | non : Im .non .non
  | bl (b : Bool) : Im (.bl b) (.bl b)
  | int (i : Int) : Im (.int i) (.int i)
  | str (x : Str) : Im (.str x) (.str x)
  | ty (n : String) : Im (.ty n) (.ty n)
  | cls (c : Nat) : Im (.ref (G.pl c)) (.cls c)
  | lst {a : Addr} {vs : List V} {ds : List D} : LsAt G H L a vs → ImA vs ds → Im (.ref a) (.lst ds)
  | scr {a : Addr} {ns : List Int} : LsK G H L a (ns.map V.int) → Im (.ref a) (.scr ns)
  | tup {a : Addr} {vs : List V} {ds : List D} : TpAt G H L a vs → ImA vs ds → Im (.ref a) (.tup ds)
  | dct {a : Addr} {ks : List Key} {vs : List V} {ds : List D} : Rd H a (.dK (ks.zip vs)) → ¬ L a → ks.length = ds.length → ImA vs ds → Im (.ref a) (.dct (ks.zip ds))
  | ins {a dx : Addr} {c : Nat} {ns : List Str} {vs : List V} {ds : List D} : H a = some (.ins (G.pl c) dx (ns.zip vs)) → ¬ L a → ns.length = ds.length → ImA vs ds → Im (.ref a) (.ins c (ns.zip ds))
  | exc0 {a : Addr} {c : Nat} : H a = some (xO (.ref (G.pl c)) none a) → ¬ L a → Im (.ref a) (.exc c [])
  | exc {a dd : Addr} {c : Nat} {ns : List Str} {vs : List V} {ds : List D} : H a = some (xO (.ref (G.pl c)) (some dd) a) → ¬ L a → H dd = some (.xd (ns.zip vs)) → ¬ L dd → ns.length = ds.length → ImA vs ds → Im (.ref a) (.exc c (ns.zip ds))
inductive ImA : List V → List D → Prop
  | nil : ImA [] []
  | cons {v : V} {vs : List V} {d : D} {ds : List D} : Im v d → ImA vs ds → ImA (v :: vs) (d :: ds)
end
mutual
/-- v is read as o; A: the addresses of what o owns -/
inductive Ow : V → O → List Addr → Prop
  | im {v : V} {d : D} : Im G H L v d → Ow v (.im d) []
  | ls {a : Addr} {vs : List V} {os : List O} {A : List Addr} : H a = some (.lst vs) → OwA vs os A → Ow (.ref a) (.ls os) (a :: A)
  | ob {a dx : Addr} {c : Nat} {ns : List Str} {vs : List V} {os : List O} {A : List Addr} : H a = some (.ins (G.pl c) dx (ns.zip vs)) → ns.length = os.length → OwA vs os A → Ow (.ref a) (.ob c ns os) (a :: A)
inductive OwA : List V → List O → List Addr → Prop
  | nil : OwA [] [] []
  | cons {v : V} {vs : List V} {o : O} {os : List O} {A B : List Addr} : Ow v o A → OwA vs os B → OwA (v :: vs) (o :: os) (A ++ B)
end
end
section
variable {G : Cl} {H H' : Hp} {L L' : Addr → Prop}
/-- from one state to another: what is not in L stays, and does not come into L' -/
structure Go (H : Hp) (L : Addr → Prop) (H' : Hp) (L' : Addr → Prop) : Prop where
  st : ∀ a o, H a = some o → ¬ L a → H' a = some o
  nl : ∀ a o, H a = some o → ¬ L a → ¬ L' a
theorem Rd.go {a : Addr} {u : HO} (g : Go H L H' L') (h : Rd H a u ∧ ¬ L a) : Rd H' a u ∧ ¬ L' a := by
  obtain ⟨h | ⟨o, h⟩, n⟩ := h
  · exact ⟨.inl (g.st _ _ h n), g.nl _ _ h n⟩
  · exact ⟨.inr ⟨o, g.st _ _ h n⟩, g.nl _ _ h n⟩
theorem LsAt.go {a : Addr} {vs : List V} (g : Go H L H' L') (h : LsAt G H L a vs) : LsAt G H' L' a vs := Rd.go g h
theorem TpAt.go {a : Addr} {vs : List V} (g : Go H L H' L') (h : TpAt G H L a vs) : TpAt G H' L' a vs := h.imp (Rd.go g) id
theorem LsK.go {a : Addr} {vs : List V} (g : Go H L H' L') (h : LsK G H L a vs) : LsK G H' L' a vs := h.imp (Rd.go g) id
theorem LsK.sq {a : Addr} {vs : List V} (h : LsK G H L a vs) : SqL G.K H a vs := by
  rcases h with h | h
  · exact .inl h.1
  · rcases h with (h | ⟨o, h⟩) | h
    · cases h
    · cases h
    · exact .inr h
theorem LsAt.sq {a : Addr} {vs : List V} (h : LsAt G H L a vs) : SqL G.K H a vs := .inl h.1
theorem TpAt.sq {a : Addr} {vs : List V} (h : TpAt G H L a vs) : SqT G.K H a vs := by
  rcases h with h | h
  · exact .inl h.1
  · rcases h with (h | ⟨o, h⟩) | h
    · cases h
    · cases h
    · exact .inr h
mutual
theorem Im.go (g : Go H L H' L') : ∀ {v : V} {d : D}, Im G H L v d → Im G H' L' v d
  | _, _, .non => .non
  | _, _, .bl b => .bl b
  | _, _, .int i => .int i
  | _, _, .str x => .str x
  | _, _, .ty n => .ty n
  | _, _, .cls c => .cls c
  | _, _, .lst h r => .lst (h.go g) (ImA.go g r)
  | _, _, .scr h => .scr (h.go g)
  | _, _, .tup h r => .tup (h.go g) (ImA.go g r)
  | _, _, .dct h n e r => .dct (Rd.go g ⟨h, n⟩).1 (Rd.go g ⟨h, n⟩).2 e (ImA.go g r)
  | _, _, .ins h n e r => .ins (g.st _ _ h n) (g.nl _ _ h n) e (ImA.go g r)
  | _, _, .exc0 h n => .exc0 (g.st _ _ h n) (g.nl _ _ h n)
  | _, _, .exc h n h2 n2 e r => .exc (g.st _ _ h n) (g.nl _ _ h n) (g.st _ _ h2 n2) (g.nl _ _ h2 n2) e (ImA.go g r)
theorem ImA.go (g : Go H L H' L') : ∀ {vs : List V} {ds : List D}, ImA G H L vs ds → ImA G H' L' vs ds
  | _, _, .nil => .nil
  | _, _, .cons h r => .cons (Im.go g h) (ImA.go g r)
end
theorem ImA.length : ∀ {vs : List V} {ds : List D}, ImA G H L vs ds → vs.length = ds.length
  | _, _, .nil => rfl
  | _, _, .cons _ r => by simp [ImA.length r]
theorem OwA.length : ∀ {vs : List V} {os : List O} {A : List Addr}, OwA G H L vs os A → vs.length = os.length
  | _, _, _, .nil => rfl
  | _, _, _, .cons _ r => by simp [OwA.length r]
theorem ImA.get : ∀ {vs : List V} {ds : List D} {i : Nat} {d : D}, ImA G H L vs ds → ds[i]? = some d → ∃ v, vs[i]? = some v ∧ Im G H L v d
  | _, _, 0, d, .cons h _, e => by simp at e; subst e; exact ⟨_, rfl, h⟩
  | _, _, i + 1, d, .cons _ r, e => by
    obtain ⟨v, q, h⟩ := ImA.get (i := i) (d := d) r (by simpa using e)
    exact ⟨v, by simpa using q, h⟩
  | _, _, i, d, .nil, e => by simp at e
theorem ImA.getV : ∀ {vs : List V} {ds : List D} {i : Nat} {v : V}, ImA G H L vs ds → vs[i]? = some v → ∃ d, ds[i]? = some d ∧ Im G H L v d
  | _, _, 0, v, .cons h _, e => by simp at e; subst e; exact ⟨_, rfl, h⟩
  | _, _, i + 1, v, .cons _ r, e => by
    obtain ⟨d, q, h⟩ := ImA.getV (i := i) (v := v) r (by simpa using e)
    exact ⟨d, by simpa using q, h⟩
  | _, _, i, v, .nil, e => by simp at e
theorem ImA.append : ∀ {vs ws : List V} {ds es : List D}, ImA G H L vs ds → ImA G H L ws es → ImA G H L (vs ++ ws) (ds ++ es)
  | _, _, _, _, .nil, s => s
  | _, _, _, _, .cons h r, s => .cons h (ImA.append r s)
theorem ImA.take : ∀ {vs : List V} {ds : List D} (n : Nat), ImA G H L vs ds → ImA G H L (vs.take n) (ds.take n)
  | _, _, 0, _ => .nil
  | _, _, _ + 1, .nil => .nil
  | _, _, n + 1, .cons h r => .cons h (ImA.take n r)
theorem ImA.drop : ∀ {vs : List V} {ds : List D} (n : Nat), ImA G H L vs ds → ImA G H L (vs.drop n) (ds.drop n)
  | _, _, 0, r => r
  | _, _, _ + 1, .nil => .nil
  | _, _, n + 1, .cons _ r => ImA.drop n r
theorem ImA.reverse {vs : List V} {ds : List D} (r : ImA G H L vs ds) : ImA G H L vs.reverse ds.reverse := by
  induction vs generalizing ds with
  | nil => cases r; exact .nil
  | cons v vs ih =>
    cases r with
    | cons h r => rw [List.reverse_cons, List.reverse_cons]; exact (ih r).append (.cons h .nil)
mutual
theorem Ow.sub : ∀ {v : V} {o : O} {A : List Addr}, Ow G H L v o A → ∀ a ∈ A, ∃ u, H a = some u
  | _, _, _, .im _, _, h => by cases h
  | _, _, _, .ls h r, b, m => by
    rcases List.mem_cons.mp m with e | m
    · subst e; exact ⟨_, h⟩
    · exact OwA.sub r b m
  | _, _, _, .ob h _ r, b, m => by
    rcases List.mem_cons.mp m with e | m
    · subst e; exact ⟨_, h⟩
    · exact OwA.sub r b m
theorem OwA.sub : ∀ {vs : List V} {os : List O} {A : List Addr}, OwA G H L vs os A → ∀ a ∈ A, ∃ u, H a = some u
  | _, _, _, .nil, _, h => by cases h
  | _, _, _, .cons h r, b, m => by
    rcases List.mem_append.mp m with m | m
    · exact Ow.sub h b m
    · exact OwA.sub r b m
end
mutual
/-- the same, where what is owned stays too -/
theorem Ow.go (g : Go H L H' L') : ∀ {v : V} {o : O} {A : List Addr}, Ow G H L v o A → (∀ a ∈ A, H' a = H a) → Ow G H' L' v o A
  | _, _, _, .im h, _ => .im (h.go g)
  | _, _, _, .ls h r, k => .ls (by rw [k _ List.mem_cons_self]; exact h) (OwA.go g r fun a m => k a (List.mem_cons_of_mem _ m))
  | _, _, _, .ob h l r, k => .ob (by rw [k _ List.mem_cons_self]; exact h) l (OwA.go g r fun a m => k a (List.mem_cons_of_mem _ m))
theorem OwA.go (g : Go H L H' L') : ∀ {vs : List V} {os : List O} {A : List Addr}, OwA G H L vs os A → (∀ a ∈ A, H' a = H a) → OwA G H' L' vs os A
  | _, _, _, .nil, _ => .nil
  | _, _, _, .cons h r, k => .cons (Ow.go g h fun a m => k a (List.mem_append_left _ m)) (OwA.go g r fun a m => k a (List.mem_append_right _ m))
end
mutual
/-- let go: it is read only from here on -/
theorem Ow.im_of (g : Go H L H L') : ∀ {v : V} {o : O} {A : List Addr}, Ow G H L v o A → (∀ a ∈ A, ¬ L' a) → Im G H L' v o.d
  | _, _, _, .im h, _ => by rw [O.d]; exact h.go g
  | _, _, _, .ls h r, k => by rw [O.d]; exact .lst ⟨.inl h, k _ List.mem_cons_self⟩ (OwA.im_of g r fun a m => k a (List.mem_cons_of_mem _ m))
  | _, _, _, .ob h l r, k => by
    rw [O.d]
    exact .ins h (k _ List.mem_cons_self) (by rw [l, O.ds_map, List.length_map]) (OwA.im_of g r fun a m => k a (List.mem_cons_of_mem _ m))
theorem OwA.im_of (g : Go H L H L') : ∀ {vs : List V} {os : List O} {A : List Addr}, OwA G H L vs os A → (∀ a ∈ A, ¬ L' a) → ImA G H L' vs (O.ds os)
  | _, _, _, .nil, _ => by rw [O.ds]; exact .nil
  | _, _, _, .cons h r, k => by rw [O.ds]; exact .cons (Ow.im_of g h fun a m => k a (List.mem_append_left _ m)) (OwA.im_of g r fun a m => k a (List.mem_append_right _ m))
end
end
end PV

set_option Elab.async false
set_option linter.all false
set_option maxRecDepth 100000
set_option maxHeartbeats 4000000
/-! PVb: a frame's slots against the heap. -/
namespace PV
open PySem L2

abbrev Env := List (Option O)
section
variable (G : Cl) (H : Hp) (L : Addr → Prop)
inductive SlA : St → Env → List Addr → Prop
  | nil : SlA [] [] []
  | no {x : Option V} {s : St} {e : Env} {A : List Addr} : SlA s e A → SlA (x :: s) (none :: e) A
  | so {v : V} {o : O} {s : St} {e : Env} {A B : List Addr} : Ow G H L v o A → SlA s e B → SlA (some v :: s) (some o :: e) (A ++ B)
end
/-- the slots s lie as e; R: what else must not be touched -/
structure SR (G : Cl) (R : Addr → Prop) (H : Hp) (s : St) (e : Env) (A : List Addr) : Prop where
  sl : SlA G H (fun a => a ∈ A ∨ R a) s e A
  nd : A.Nodup
  dj : ∀ a ∈ A, ¬ R a
  ft : ∀ a, R a → ∃ o, H a = some o
/-- from one state to the next; q: nothing that stood was written -/
structure Fr (q : Bool) (H : Hp) (A : List Addr) (H' : Hp) (A' : List Addr) : Prop where
  st : ∀ a o, H a = some o → (q = true ∨ a ∉ A) → H' a = some o
  nw : ∀ a ∈ A', a ∈ A ∨ H a = none
section
variable {G : Cl} {H H' H2 : Hp} {L L' R : Addr → Prop} {q q' : Bool} {s s' xs : St} {e e' cs : Env} {A A' A1 A2 B : List Addr}
theorem SlA.length : ∀ {s : St} {e : Env} {A : List Addr}, SlA G H L s e A → s.length = e.length
  | _, _, _, .nil => rfl
  | _, _, _, .no r => by simp [SlA.length r]
  | _, _, _, .so _ r => by simp [SlA.length r]
theorem SlA.sub : ∀ {s : St} {e : Env} {A : List Addr}, SlA G H L s e A → ∀ a ∈ A, ∃ u, H a = some u
  | _, _, _, .nil, _, h => by cases h
  | _, _, _, .no r, b, m => SlA.sub r b m
  | _, _, _, .so h r, b, m => by
    rcases List.mem_append.mp m with m | m
    · exact Ow.sub h b m
    · exact SlA.sub r b m
theorem SlA.go (g : Go H L H' L') : ∀ {s : St} {e : Env} {A : List Addr}, SlA G H L s e A → (∀ a ∈ A, H' a = H a) → SlA G H' L' s e A
  | _, _, _, .nil, _ => .nil
  | _, _, _, .no r, k => .no (SlA.go g r k)
  | _, _, _, .so h r, k => .so (Ow.go g h fun a m => k a (List.mem_append_left _ m)) (SlA.go g r fun a m => k a (List.mem_append_right _ m))
theorem SlA.app : ∀ {xs : St} {cs : Env} {A : List Addr}, SlA G H L xs cs A → SlA G H L s e B → SlA G H L (xs ++ s) (cs ++ e) (A ++ B)
  | _, _, _, .nil, r => r
  | _, _, _, .no t, r => .no (SlA.app t r)
  | _, _, _, .so h t, r => by rw [List.append_assoc]; exact .so h (SlA.app t r)
theorem SlA.split : ∀ {xs : St} {cs : Env} {A : List Addr}, xs.length = cs.length → SlA G H L (xs ++ s) (cs ++ e) A → ∃ A1 A2, A = A1 ++ A2 ∧ SlA G H L xs cs A1 ∧ SlA G H L s e A2
  | [], [], A, _, r => ⟨[], A, rfl, .nil, r⟩
  | [], _ :: _, _, h, _ => by simp at h
  | _ :: _, [], _, h, _ => by simp at h
  | x :: xs, c :: cs, A, h, r => by
    cases r with
    | no r =>
      obtain ⟨A1, A2, e1, r1, r2⟩ := SlA.split (xs := xs) (cs := cs) (by simpa using h) r
      exact ⟨A1, A2, e1, .no r1, r2⟩
    | so h0 r =>
      obtain ⟨A1, A2, e1, r1, r2⟩ := SlA.split (xs := xs) (cs := cs) (by simpa using h) r
      exact ⟨_ ++ A1, A2, by rw [e1, List.append_assoc], .so h0 r1, r2⟩
/-- slot i: its own part apart from the rest -/
theorem SlA.at : ∀ {s : St} {e : Env} {A : List Addr} {i : Nat} {o : O}, SlA G H L s e A → e[i]? = some (some o) →
    ∃ v A1 A2 A3, s[i]? = some (some v) ∧ A = A1 ++ (A2 ++ A3) ∧ Ow G H L v o A2 ∧ ∀ (w : Option V) (c : Option O) (B : List Addr), SlA G H L [w] [c] B → SlA G H L (s.set i w) (e.set i c) (A1 ++ (B ++ A3))
  | _, _, _, 0, o, .so (A := A) (B := B) h r, hi => by
    simp at hi; subst hi
    exact ⟨_, [], A, B, rfl, rfl, h, fun w c C t => t.app r⟩
  | _, _, _, i + 1, o, .so (A := A) h r, hi => by
    obtain ⟨v, A1, A2, A3, h1, h2, h3, h4⟩ := SlA.at (i := i) r (by simpa using hi)
    exact ⟨v, A ++ A1, A2, A3, by simpa using h1, by rw [h2, List.append_assoc], h3, fun w c C t => by rw [List.append_assoc]; exact .so h (h4 w c C t)⟩
  | _, _, _, i + 1, o, .no r, hi => by
    obtain ⟨v, A1, A2, A3, h1, h2, h3, h4⟩ := SlA.at (i := i) r (by simpa using hi)
    exact ⟨v, A1, A2, A3, by simpa using h1, h2, h3, fun w c C t => .no (h4 w c C t)⟩
  | _, _, _, 0, o, .no r, hi => by simp at hi
/-- any slot set anew, whatever stood in it -/
theorem SlA.put : ∀ {s : St} {e : Env} {A : List Addr} {i : Nat}, SlA G H L s e A → i < s.length →
    ∃ A1 A2 A3, A = A1 ++ (A2 ++ A3) ∧ ∀ (w : Option V) (c : Option O) (B : List Addr), SlA G H L [w] [c] B → SlA G H L (s.set i w) (e.set i c) (A1 ++ (B ++ A3))
  | _, _, _, _, .nil, h => by simp at h
  | _, _, _, 0, .so (A := A) (B := B) h r, hi => ⟨[], A, B, rfl, fun w c C t => t.app r⟩
  | _, _, A, 0, .no r, hi => ⟨[], [], A, rfl, fun w c C t => t.app r⟩
  | _, _, _, i + 1, .so (A := A) h r, hi => by
    obtain ⟨A1, A2, A3, h2, h4⟩ := SlA.put (i := i) r (by simpa using hi)
    exact ⟨A ++ A1, A2, A3, by rw [h2, List.append_assoc], fun w c C t => by rw [List.append_assoc]; exact .so h (h4 w c C t)⟩
  | _, _, _, i + 1, .no r, hi => by
    obtain ⟨A1, A2, A3, h2, h4⟩ := SlA.put (i := i) r (by simpa using hi)
    exact ⟨A1, A2, A3, h2, fun w c C t => .no (h4 w c C t)⟩

theorem Fr.refl : Fr q H A H A := ⟨fun _ _ h _ => h, fun _ h => .inl h⟩
theorem Fr.less (h : ∀ a ∈ A', a ∈ A) : Fr q H A H A' := ⟨fun _ _ h _ => h, fun a m => .inl (h a m)⟩
theorem Fr.mono (f : Fr q H A H' A') (h : q' = true → q = true) : Fr q' H A H' A' := ⟨fun a o x y => f.st a o x (y.imp h id), f.nw⟩
theorem Fr.trans (f : Fr q H A H' A') (g : Fr q' H' A' H2 A2) : Fr (q && q') H A H2 A2 := by
  refine ⟨fun a o x y => ?_, fun a m => ?_⟩
  · have y1 : q = true ∨ a ∉ A := y.imp (fun z => (Bool.and_eq_true_iff.mp z).1) id
    refine g.st a o (f.st a o x y1) ?_
    rcases y with y | y
    · exact .inl (Bool.and_eq_true_iff.mp y).2
    · refine .inr fun m => ?_
      rcases f.nw a m with z | z
      · exact y z
      · rw [x] at z; cases z
  · rcases g.nw a m with z | z
    · exact f.nw a z
    · by_cases hm : a ∈ A
      · exact .inl hm
      · right
        cases e : H a with
        | none => rfl
        | some o =>
          rw [f.st a o e (.inr hm)] at z
          cases z
theorem Fr.sub (f : Fr q H A H' A') (h : ∀ a ∈ A2, a ∈ A') : Fr q H A H' A2 := ⟨f.st, fun a m => f.nw a (h a m)⟩
theorem Fr.wide (f : Fr q H A H' A') (h : ∀ a ∈ A, a ∈ A2) : Fr q H A2 H' A' := ⟨fun a o x y => f.st a o x (y.imp id fun z m => z (h a m)), fun a m => (f.nw a m).imp (h a) id⟩

/-- smaller sets of what must not be met -/
theorem Go.less (h : ∀ a, L' a → L a) : Go H L H L' := ⟨fun _ _ x _ => x, fun a _ _ n m => n (h a m)⟩
theorem SR.len (S : SR G R H s e A) : s.length = e.length := S.sl.length
theorem SR.dom (S : SR G R H s e A) : ∀ a ∈ A, ∃ u, H a = some u := S.sl.sub
/-- what stands before is put aside -/
theorem SR.frame (hl : xs.length = cs.length) (S : SR G R H (xs ++ s) (cs ++ e) A) :
    ∃ A1 A2, A = A1 ++ A2 ∧ SlA G H (fun a => a ∈ A ∨ R a) xs cs A1 ∧ SR G (fun a => R a ∨ a ∈ A1) H s e A2 := by
  obtain ⟨A1, A2, rfl, r1, r2⟩ := SlA.split hl S.sl
  have nd := List.nodup_append.mp S.nd
  refine ⟨A1, A2, rfl, r1, ⟨r2.go (Go.less fun a h => ?_) fun _ _ => rfl, nd.2.1, fun a m => ?_, fun a h => ?_⟩⟩
  · rcases h with h | h | h
    · exact .inl (List.mem_append_right _ h)
    · exact .inr h
    · exact .inl (List.mem_append_left _ h)
  · rintro (h | h)
    · exact S.dj a (List.mem_append_right _ m) h
    · exact nd.2.2 a h a m rfl
  · rcases h with h | h
    · exact S.ft a h
    · exact S.dom a (List.mem_append_left _ h)
/-- .. and back -/
theorem SR.unframe (r1 : SlA G H (fun a => a ∈ A1 ++ A ∨ R a) xs cs A1) (nd : A1.Nodup) (dj : ∀ a ∈ A1, ¬ R a) (S : SR G (fun a => R a ∨ a ∈ A1) H' s e A') (hA : ∀ a ∈ A, a ∉ A1) (hR : ∀ a ∈ A, ¬ R a) (f : Fr q H A H' A') :
    SR G R H' (xs ++ s) (cs ++ e) (A1 ++ A') ∧ Fr q H (A1 ++ A) H' (A1 ++ A') := by
  refine ⟨⟨?_, ?_, ?_, ?_⟩, ?_, ?_⟩
  · refine SlA.app (r1.go ⟨fun a o h n => f.st a o h (.inr fun m => n (.inl (List.mem_append_right _ m))), fun a o h n => ?_⟩ fun a m => ?_) (S.sl.go (Go.less fun a h => ?_) fun _ _ => rfl)
    · rintro (z | z)
      · rcases List.mem_append.mp z with z | z
        · exact n (.inl (List.mem_append_left _ z))
        · rcases f.nw a z with y | y
          · exact n (.inl (List.mem_append_right _ y))
          · rw [h] at y; cases y
      · exact n (.inr z)
    · obtain ⟨u, hu⟩ := r1.sub a m
      rw [hu, f.st a u hu (.inr fun z => hA a z m)]
    · rcases h with h | h
      · rcases List.mem_append.mp h with h | h
        · exact .inr (.inr h)
        · exact .inl h
      · exact .inr (.inl h)
  · refine List.nodup_append.mpr ⟨nd, S.nd, fun a m b m' z => ?_⟩
    subst z
    exact S.dj a m' (.inr m)
  · intro a m
    rcases List.mem_append.mp m with m | m
    · exact dj a m
    · exact fun h => S.dj a m (.inl h)
  · exact fun a h => S.ft a (.inl h)
  · intro a o h k
    exact f.st a o h (k.imp id fun n m => n (List.mem_append_right _ m))
  · intro a m
    rcases List.mem_append.mp m with m | m
    · exact .inl (List.mem_append_left _ m)
    · exact (f.nw a m).imp (List.mem_append_right _) id
/-- dropped -/
theorem SR.drop (hl : xs.length = cs.length) (S : SR G R H (xs ++ s) (cs ++ e) A) : ∃ A', SR G R H s e A' ∧ ∀ a ∈ A', a ∈ A := by
  obtain ⟨A1, A2, rfl, _, S2⟩ := SR.frame hl S
  exact ⟨A2, ⟨S2.sl.go (Go.less fun a h => h.imp id .inl) fun _ _ => rfl, S2.nd, fun a m h => S2.dj a m (.inl h), fun a h => S2.ft a (.inl h)⟩, fun a m => List.mem_append_right _ m⟩
theorem SR.tail {x : Option V} {c : Option O} (S : SR G R H (x :: s) (c :: e) A) : ∃ A', SR G R H s e A' ∧ ∀ a ∈ A', a ∈ A := SR.drop (xs := [x]) (cs := [c]) rfl S
/-- general: the relation of the slots over fewer addresses -/
theorem SR.less (S : SR G R H s e A) (r : SlA G H (fun a => a ∈ A ∨ R a) s' e' A') (nd : A'.Nodup) (h : ∀ a ∈ A', a ∈ A) : SR G R H s' e' A' :=
  ⟨r.go (Go.less fun a m => m.imp (h a) id) fun _ _ => rfl, nd, fun a m => S.dj a (h a m), S.ft⟩
theorem nodup3 {A1 A2 A3 : List Addr} (h : (A1 ++ (A2 ++ A3)).Nodup) : (A1 ++ A3).Nodup ∧ A2.Nodup ∧ ∀ a ∈ A2, a ∉ A1 ++ A3 := by
  obtain ⟨h1, h2, h3⟩ := List.nodup_append.mp h
  obtain ⟨h4, h5, h6⟩ := List.nodup_append.mp h2
  refine ⟨List.nodup_append.mpr ⟨h1, h5, fun a m b m' => h3 a m b (List.mem_append_right _ m')⟩, h4, fun a m z => ?_⟩
  rcases List.mem_append.mp z with z | z
  · exact h3 a z a (List.mem_append_left _ m) rfl
  · exact h6 a m a z rfl
theorem mem3 {A1 A2 A3 : List Addr} {a : Addr} (h : a ∈ A1 ++ A3) : a ∈ A1 ++ (A2 ++ A3) := by
  rcases List.mem_append.mp h with h | h
  · exact List.mem_append_left _ h
  · exact List.mem_append_right _ (List.mem_append_right _ h)
/-- a name is read: from here on its thing is read only -/
theorem SR.read {i : Nat} {o : O} (S : SR G R H s e A) (h : e[i]? = some (some o)) :
    ∃ v A', s[i]? = some (some v) ∧ SR G R H (some v :: s) (some (.im o.d) :: e.set i (some (.im o.d))) A' ∧ ∀ a ∈ A', a ∈ A := by
  obtain ⟨v, A1, A2, A3, h1, rfl, h3, h4⟩ := SlA.at S.sl h
  obtain ⟨n1, n2, n3⟩ := nodup3 S.nd
  have g : Go H (fun a => a ∈ A1 ++ (A2 ++ A3) ∨ R a) H (fun a => a ∈ A1 ++ A3 ∨ R a) := Go.less fun a m => m.imp mem3 id
  have im : Im G H (fun a => a ∈ A1 ++ A3 ∨ R a) v o.d := Ow.im_of g h3 fun a m z => by
    rcases z with z | z
    · exact n3 a m z
    · exact S.dj a (List.mem_append_right _ (List.mem_append_left _ m)) z
  have es : s.set i (some v) = s := by
    apply List.ext_getElem? ; intro j
    by_cases hj : i = j
    · subst hj
      rw [List.getElem?_set_self (by
        rcases Nat.lt_or_ge i s.length with z | z
        · exact z
        · rw [List.getElem?_eq_none z] at h1; cases h1), h1]
    · rw [List.getElem?_set_ne hj]
  have r0 := (h4 (some v) none [] (.no .nil)).go g fun _ _ => rfl
  rw [es] at r0
  refine ⟨v, A1 ++ A3, h1, ⟨?_, n1, fun a m => S.dj a (mem3 m), S.ft⟩, fun a m => mem3 m⟩
  -- slot i set to the tree
  have r1 : SlA G H (fun a => a ∈ A1 ++ A3 ∨ R a) s (e.set i (some (.im o.d))) (A1 ++ A3) := by
    have hi : i < s.length := by
      rcases Nat.lt_or_ge i s.length with z | z
      · exact z
      · rw [List.getElem?_eq_none z] at h1; cases h1
    have key : ∀ {s : St} {e : Env} {B : List Addr} {i : Nat}, SlA G H (fun a => a ∈ A1 ++ A3 ∨ R a) s (e.set i none) B → s[i]? = some (some v) → SlA G H (fun a => a ∈ A1 ++ A3 ∨ R a) s (e.set i (some (.im o.d))) B := by
      intro s
      induction s with
      | nil => intro e B i _ h; simp at h
      | cons x s ih =>
        intro e B i r h
        cases e with
        | nil => simpa using r
        | cons c e =>
          cases i with
          | zero =>
            simp at h; subst h
            simp only [List.set_cons_zero] at r ⊢
            cases r with
            | no r => exact .so (A := []) (.im im) r
          | succ i =>
            simp only [List.set_cons_succ] at r ⊢
            cases r with
            | no r => exact .no (ih r (by simpa using h))
            | so h0 r => exact .so h0 (ih r (by simpa using h))
    exact key r0 h1
  exact .so (A := []) (.im im) r1
/-- a name's thing goes elsewhere -/
theorem SR.move {i : Nat} {o : O} (S : SR G R H s e A) (h : e[i]? = some (some o)) :
    ∃ v A', s[i]? = some (some v) ∧ SR G R H (some v :: s) (some o :: e.set i none) A' ∧ ∀ a ∈ A', a ∈ A := by
  obtain ⟨v, A1, A2, A3, h1, rfl, h3, h4⟩ := SlA.at S.sl h
  obtain ⟨n1, n2, n3⟩ := nodup3 S.nd
  have hi : i < s.length := by
    rcases Nat.lt_or_ge i s.length with z | z
    · exact z
    · rw [List.getElem?_eq_none z] at h1; cases h1
  have es : s.set i (some v) = s := by
    apply List.ext_getElem? ; intro j
    by_cases hj : i = j
    · subst hj; rw [List.getElem?_set_self hi, h1]
    · rw [List.getElem?_set_ne hj]
  have r0 := h4 (some v) none [] (.no .nil)
  rw [es] at r0
  have mm : ∀ a ∈ A2 ++ (A1 ++ A3), a ∈ A1 ++ (A2 ++ A3) := fun a m => by
    rcases List.mem_append.mp m with m | m
    · exact List.mem_append_right _ (List.mem_append_left _ m)
    · exact mem3 m
  refine ⟨v, A2 ++ (A1 ++ A3), h1, S.less (.so h3 r0) (List.nodup_append.mpr ⟨n2, n1, fun a m b m' z => by subst z; exact n3 a m m'⟩) mm, mm⟩
/-- what stands on top goes to slot i -/
theorem SR.store {i : Nat} {v : V} {o : O} (S : SR G R H (some v :: s) (some o :: e) A) (hi : i < s.length) :
    ∃ A', SR G R H (s.set i (some v)) (e.set i (some o)) A' ∧ ∀ a ∈ A', a ∈ A := by
  have sl := S.sl
  have hn := S.nd
  cases sl with
  | so h r =>
    rename_i B C
    obtain ⟨A1, A2, A3, rfl, h4⟩ := SlA.put r hi
    have q := h4 (some v) (some o) (B ++ []) (.so h .nil)
    rw [List.append_nil] at q
    obtain ⟨nB, nC, nBC⟩ := List.nodup_append.mp hn
    obtain ⟨n1, _, _⟩ := nodup3 nC
    have mm : ∀ a ∈ A1 ++ (B ++ A3), a ∈ B ++ (A1 ++ (A2 ++ A3)) := fun a m => by
      rcases List.mem_append.mp m with m | m
      · exact List.mem_append_right _ (List.mem_append_left _ m)
      · rcases List.mem_append.mp m with m | m
        · exact List.mem_append_left _ m
        · exact List.mem_append_right _ (mem3 (List.mem_append_right _ m))
    obtain ⟨n11, n13, n113⟩ := List.nodup_append.mp n1
    refine ⟨A1 ++ (B ++ A3), S.less q (List.nodup_append.mpr ⟨n11, List.nodup_append.mpr ⟨nB, n13, fun a m b m' => nBC a m b (mem3 (List.mem_append_right _ m'))⟩, fun a m b m' z => ?_⟩) mm, mm⟩
    subst z
    rcases List.mem_append.mp m' with m' | m'
    · exact nBC a m' a (List.mem_append_left _ m) rfl
    · exact n113 a m a m' rfl
/-- the top is let go: read only from here on -/
theorem SR.letgo {v : V} {o : O} (S : SR G R H (some v :: s) (some o :: e) A) : ∃ A', SR G R H (some v :: s) (some (.im o.d) :: e) A' ∧ ∀ a ∈ A', a ∈ A := by
  have hn := S.nd
  have hd := S.dj
  have sl := S.sl
  cases sl with
  | so h r =>
    rename_i B C
    obtain ⟨nB, nC, nBC⟩ := List.nodup_append.mp hn
    have g : Go H (fun a => a ∈ B ++ C ∨ R a) H (fun a => a ∈ C ∨ R a) := Go.less fun a m => m.imp (List.mem_append_right _) id
    have im : Im G H (fun a => a ∈ C ∨ R a) v o.d := Ow.im_of g h fun a m z => by
      rcases z with z | z
      · exact nBC a m a z rfl
      · exact hd a (List.mem_append_left _ m) z
    exact ⟨C, ⟨.so (A := []) (.im im) (r.go g fun _ _ => rfl), nC, fun a m => hd a (List.mem_append_right _ m), S.ft⟩, fun a m => List.mem_append_right _ m⟩
/-- the slots alone over a new, untouched address -/
theorem SR.push {p : Addr} {u : HO} (S : SR G R H s e A) (hp : H p = none) : SR G R (upd H p u) s e A := by
  have ne : ∀ a o, H a = some o → a ≠ p := fun a o h z => by rw [z, hp] at h; cases h
  refine ⟨S.sl.go ⟨fun a o h _ => by rw [upd_ne (ne a o h)]; exact h, fun a o h n => n⟩ fun a m => ?_, S.nd, S.dj, fun a h => ?_⟩
  · obtain ⟨u, hu⟩ := S.dom a m
    exact upd_ne (ne a u hu)
  · obtain ⟨o, ho⟩ := S.ft a h
    exact ⟨o, by rw [upd_ne (ne a o ho)]; exact ho⟩
theorem Fr.push {p : Addr} {u : HO} (hp : H p = none) : Fr q H A (upd H p u) A :=
  ⟨fun a o h _ => by rw [upd_ne (fun z => by rw [z, hp] at h; cases h)]; exact h, fun a m => .inl m⟩
/-- a new list of what stands on top -/
theorem SR.newG {p : Addr} {u0 : HO} {q0 : O} {vs : List V} {os : List O} (S : SR G R H (vs.map some ++ s) (os.map some ++ e) A) (hl : vs.length = os.length) (hp : H p = none) (mk : ∀ L B, OwA G (upd H p u0) L vs os B → Ow G (upd H p u0) L (.ref p) q0 (p :: B)) :
    SR G R (upd H p u0) (some (.ref p) :: s) (some q0 :: e) (p :: A) ∧ Fr q H A (upd H p u0) (p :: A) := by
  obtain ⟨A1, A2, hA, r1, r2⟩ := SlA.split (by simpa using hl) S.sl
  have pA : p ∉ A := fun m => by
    obtain ⟨u, hu⟩ := S.dom p m
    rw [hp] at hu; cases hu
  have pR : ¬ R p := fun h => by
    obtain ⟨u, hu⟩ := S.ft p h
    rw [hp] at hu; cases hu
  have ne : ∀ a o, H a = some o → a ≠ p := fun a o h z => by rw [z, hp] at h; cases h
  have g : Go H (fun a => a ∈ A ∨ R a) (upd H p u0) (fun a => a ∈ p :: A ∨ R a) := ⟨fun a o h _ => by rw [upd_ne (ne a o h)]; exact h, fun a o h n z => by
    rcases z with z | z
    · rcases List.mem_cons.mp z with z | z
      · exact ne a o h z
      · exact n (.inl z)
    · exact n (.inr z)⟩
  have toA : ∀ {vs : List V} {os : List O} {B : List Addr}, SlA G (upd H p u0) (fun a => a ∈ p :: A ∨ R a) (vs.map some) (os.map some) B → OwA G (upd H p u0) (fun a => a ∈ p :: A ∨ R a) vs os B := by
    intro vs
    generalize hh : upd H p u0 = HH
    clear hh
    induction vs with
    | nil => intro os B r; cases os with
      | nil => cases r; exact .nil
      | cons o os => cases r
    | cons v vs ih => intro os B r; cases os with
      | nil => cases r
      | cons o os => cases r with
        | so h r => exact .cons h (ih r)
  have keepA : ∀ a ∈ A, upd H p u0 a = H a := fun a m => upd_ne fun z => pA (z ▸ m)
  refine ⟨⟨?_, List.nodup_cons.mpr ⟨pA, S.nd⟩, fun a m => ?_, fun a h => ?_⟩, fun a o h _ => by rw [upd_ne (ne a o h)]; exact h, fun a m => ?_⟩
  · have o1 : Ow G (upd H p u0) (fun a => a ∈ p :: A ∨ R a) (.ref p) q0 (p :: A1) := mk _ _ (toA (r1.go g fun a m => keepA a (hA ▸ List.mem_append_left _ m)))
    have r := SlA.so o1 (r2.go g fun a m => keepA a (hA ▸ List.mem_append_right _ m))
    rw [List.cons_append, ← hA] at r
    exact r
  · rcases List.mem_cons.mp m with z | z
    · rw [z]; exact pR
    · exact S.dj a z
  · obtain ⟨o, ho⟩ := S.ft a h
    exact ⟨o, by rw [upd_ne (ne a o ho)]; exact ho⟩
  · rcases List.mem_cons.mp m with z | z
    · right; rw [z]; exact hp
    · exact .inl z
theorem SR.newl {p : Addr} {vs : List V} {os : List O} (S : SR G R H (vs.map some ++ s) (os.map some ++ e) A) (hl : vs.length = os.length) (hp : H p = none) :
    SR G R (upd H p (.lst vs)) (some (.ref p) :: s) (some (.ls os) :: e) (p :: A) ∧ Fr q H A (upd H p (.lst vs)) (p :: A) :=
  SR.newG S hl hp fun _ _ r => .ls upd_same r
end
end PV

set_option Elab.async false
set_option linter.all false
set_option maxRecDepth 100000
set_option maxHeartbeats 4000000
/-! PVc: expressions as functions of the slots. -/
namespace PV
open PySem L2

inductive Res (α : Type) where
  | ok (a : α) (e : Env) | er (x : D) (e : Env) | no
def Res.bind {α β : Type} (r : Res α) (f : α → Env → Res β) : Res β := match r with
  | .ok a e => f a e
  | .er x e => .er x e
  | .no => .no
theorem bind_ok {α β : Type} (a : α) (e : Env) (f : α → Env → Res β) : (Res.ok a e).bind f = f a e := rfl
theorem bind_er {α β : Type} (x : D) (e : Env) (f : α → Env → Res β) : (Res.er x e : Res α).bind f = .er x e := rfl
theorem bind_no {α β : Type} (f : α → Env → Res β) : (Res.no : Res α).bind f = .no := rfl
/-- what an expression hands on: a value of its own, or what stands in a slot -/
inductive AO where
  | v (o : O) | s (i : Nat)
def AO.cell : AO → Option O
  | .v o => some o
  | .s _ => none
def AO.get (e : Env) : AO → Option O
  | .v o => some o
  | .s i => (e[i]?).join
def AO.fits (s : St) (v : V) : AO → Prop
  | .v _ => True
  | .s i => s[i]? = some (some v)

section
variable (G : Cl)
/-- an exception of the program's own: its class, its dict -/
inductive XR (H : Hp) (L : Addr → Prop) : Value → Option Addr → D → Prop
  | non {c : Nat} : XR H L (.ref (G.pl c)) none (.exc c [])
  | dic {c : Nat} {dd : Addr} {ns : List Str} {vs : List V} {ds : List D} : H dd = some (.xd (ns.zip vs)) → ¬ L dd → ns.length = ds.length → ImA G H L vs ds → XR H L (.ref (G.pl c)) (some dd) (.exc c (ns.zip ds))
abbrev Fr0 (H : Hp) (A : List Addr) (H' : Hp) (A' : List Addr) : Prop := Fr false H A H' A'
def erE (W : WX) (R : Addr → Prop) (s : St) (H : Hp) (A : List Addr) (x : D) (e' : Env) : Prop :=
  ∀ c d H' A', SR G R H' s e' A' → XR G H' (fun a => a ∈ A' ∨ R a) c d x → Fr0 H A H' A' → W c d s H'
/-- an expression's reading -/
def tX (W : WX) (f : Env → Res AO) : TE := fun s H Q => ∃ R e A, SR G R H s e A ∧ match f e with
  | .ok a e' => ∀ v H' A', SR G R H' (some v :: s) (a.cell :: e') A' → a.fits s v → Fr0 H A H' A' → Q v H'
  | .er x e' => erE G W R s H A x e'
  | .no => False
/-- a test's -/
def tT (W : WX) (f : Env → Res Bool) : TT := fun s H Q => ∃ R e A, SR G R H s e A ∧ match f e with
  | .ok b e' => ∀ H' A', SR G R H' s e' A' → Fr0 H A H' A' → Q b H'
  | .er x e' => erE G W R s H A x e'
  | .no => False
/-- an argument list's -/
def tL (W : WX) (f : Env → Res (List AO)) : TA := fun s H Q => ∃ R e A, SR G R H s e A ∧ match f e with
  | .ok as e' => ∀ vs H' A', SR G R H' (vs.map some ++ s) (as.map AO.cell ++ e') A' → vs.length = as.length → (∀ (j : Nat) (a : AO) (v : V), as[j]? = some a → vs[j]? = some v → a.fits s v) → Fr0 H A H' A' → Q vs H'
  | .er x e' => erE G W R s H A x e'
  | .no => False
end
section
variable {X : Cx} {W : WX} {G : Cl}
theorem peW {e : Expr} {t t' : TE} (h : PE X e t) (k : ∀ s H Q, t' s H Q → t s H Q) : PE X e t' := ⟨fun pins s σ H Q I z => h.run pins s σ H Q I (k σ H Q z)⟩
theorem ptW {e : Expr} {t t' : TT} (h : PT X e t) (k : ∀ s H Q, t' s H Q → t s H Q) : PT X e t' := ⟨fun pins s σ H Q I z => h.run pins s σ H Q I (k σ H Q z)⟩
theorem paW {e : List Expr} {t t' : TA} (h : PA X e t) (k : ∀ s H Q, t' s H Q → t s H Q) : PA X e t' := ⟨fun pos pins s σ H Q I z => h.run pos pins s σ H Q I (k σ H Q z)⟩

theorem erE.sub {R R1 : Addr → Prop} {s : St} {H H1 : Hp} {A A1 : List Addr} {x : D} {e' : Env} (h : erE G W R s H A x e') (hR : ∀ a, R a → R1 a) (f : Fr0 H A H1 A1) : erE G W R1 s H1 A1 x e' :=
  fun c d H' A' S r g => h c d H' A' ⟨S.sl.go (Go.less fun a m => m.imp id (hR a)) fun _ _ => rfl, S.nd, fun a m z => S.dj a m (hR a z), fun a z => S.ft a (hR a z)⟩
    (by
      cases r with
      | non => exact .non
      | dic a1 a2 a3 a4 => exact .dic a1 (fun z => a2 (z.imp id (hR _))) a3 (a4.go (Go.less fun a m => m.imp id (hR a)))) (f.trans g)

/-! ### names, constants -/
def fN (i : Nat) : Env → Res AO := fun e => match e[i]? with
  | some (some _) => .ok (.s i) e
  | _ => .no
theorem SlA.has {H : Hp} {L : Addr → Prop} : ∀ {s : St} {e : Env} {A : List Addr} {i : Nat} {o : O}, SlA G H L s e A → e[i]? = some (some o) → ∃ v, s[i]? = some (some v) := fun r h => let ⟨v, _, _, _, h1, _⟩ := SlA.at r h; ⟨v, h1⟩
theorem px_name (i : Nat) {x : Str} {pos : Pos} (hN : X.N[i]? = some x := by rfl) (hv : Vis X.env.scope x := by first | exact Or.inl rfl | exact Or.inr (Or.inl rfl) | exact Or.inr (Or.inr rfl)) (hd : (x == ("__debug__" : Str)) = false := by decide)
    (hcd : (x == ("__classdict__" : Str)) = false := by decide) : PE X (.Name x pos) (tX G W (fN i)) := by
  refine peW (pe_var (i := i) hN hv hd hcd) fun s H Q ⟨R, e, A, S, h⟩ => ?_
  unfold fN at h
  cases ho : e[i]? with
  | none => rw [ho] at h; cases h
  | some c => cases c with
    | none => rw [ho] at h; cases h
    | some o =>
      rw [ho] at h
      obtain ⟨v, hv⟩ := S.sl.has ho
      exact ⟨v, hv, h v H A ⟨.no S.sl, S.nd, S.dj, S.ft⟩ hv Fr.refl⟩
def fC (d : D) : Env → Res AO := fun e => .ok (.v (.im d)) e
theorem px_const {ex : Expr} {v : V} {d : D} (h : PE X ex (tC v)) (r : ∀ H L, Im G H L v d) : PE X ex (tX G W (fC d)) :=
  peW h fun s H Q ⟨R, e, A, S, k⟩ => k v H A ⟨.so (A := []) (.im (r _ _)) S.sl, S.nd, S.dj, S.ft⟩ trivial Fr.refl
theorem px_int {i j pos} : PE X (.Constant (.int i) j pos) (tX G W (fC (.int i))) := px_const pe_int fun _ _ => .int i
theorem px_bl {b j pos} : PE X (.Constant (.bool b) j pos) (tX G W (fC (.bl b))) := px_const pe_bl fun _ _ => .bl b
theorem px_non {j pos} : PE X (.Constant .none j pos) (tX G W (fC .non)) := px_const pe_non fun _ _ => .non
theorem px_str {x j pos} : PE X (.Constant (.str x) j pos) (tX G W (fC (.str x))) := px_const pe_str fun _ _ => .str x

/-! ### argument lists -/
def fNil : Env → Res (List AO) := fun e => .ok [] e
def fCons (f : Env → Res AO) (g : Env → Res (List AO)) : Env → Res (List AO) := fun e => (f e).bind fun a e1 => (g e1).bind fun as e2 => .ok (a :: as) e2
theorem pl_nil : PA X [] (tL G W fNil) := paW pa_nil fun s H Q ⟨R, e, A, S, k⟩ => k [] H A S rfl (fun j a v h => by simp at h) Fr.refl
/-- one, then more: what the first left is put aside -/
theorem seq2 {f : Env → Res AO} {β : Type} {R : Addr → Prop} {e : Env} {A : List Addr} {s : St} {H : Hp} (S : SR G R H s e A) {v : V} {a : AO} {e1 : Env} {H1 : Hp} {A1 : List Addr}
    (S1 : SR G R H1 (some v :: s) (a.cell :: e1) A1) : ∃ R1 B C, A1 = B ++ C ∧ SR G R1 H1 s e1 C ∧ (∀ z, R z → R1 z) ∧
      ∀ (xs : St) (cs : Env) H2 A2, xs.length = cs.length → SR G R1 H2 (xs ++ s) (cs ++ e1) A2 → Fr0 H1 C H2 A2 → True := by
  obtain ⟨B, C, h1, h2, h3⟩ := SR.frame (xs := [some v]) (cs := [a.cell]) rfl S1
  exact ⟨_, B, C, h1, h3, fun z h => .inl h, fun _ _ _ _ _ _ _ => trivial⟩
theorem pl_cons {ex : Expr} {es : List Expr} {f : Env → Res AO} {g : Env → Res (List AO)} (ha : PE X ex (tX G W f)) (hr : PA X es (tL G W g)) (hs : starEach (ex :: es) X.env = (false, eval ex X.env) :: starEach es X.env := by rfl) : PA X (ex :: es) (tL G W (fCons f g)) := by
  refine paW (pa_cons ha hr hs) fun s H Q ⟨R, e, A, S, k⟩ => ⟨R, e, A, S, ?_⟩
  unfold fCons at k
  cases hf : f e with
  | no => rw [hf] at k; cases k
  | er x e' => rw [hf] at k; exact k
  | ok a e1 =>
    rw [hf] at k
    intro v H1 A1 S1 ft F1
    obtain ⟨B, C, hA, r1, S2⟩ := SR.frame (xs := [some v]) (cs := [a.cell]) rfl S1
    subst hA
    obtain ⟨nB, nC, nBC⟩ := List.nodup_append.mp S1.nd
    refine ⟨_, e1, C, S2, ?_⟩
    dsimp only [Res.bind] at k
    cases hg : g e1 with
    | no => rw [hg] at k; cases k
    | er x e' =>
      rw [hg] at k
      exact erE.sub k (fun a h => .inl h) (F1.sub fun a m => List.mem_append_right _ m)
    | ok as e2 =>
      rw [hg] at k
      intro vs H2 A2 S3 hl fts F2
      obtain ⟨S4, F4⟩ := SR.unframe r1 nB (fun a m => S1.dj a (List.mem_append_left _ m)) S3 (fun a m z => nBC a z a m rfl) (fun a m => S1.dj a (List.mem_append_right _ m)) F2
      refine k (v :: vs) H2 (B ++ A2) S4 (by simp [hl]) (fun j b w hj hw => ?_) (F1.trans F4)
      cases j with
      | zero => simp at hj hw; subst hj; subst hw; exact ft
      | succ j => exact fts j b w (by simpa using hj) (by simpa using hw)

/-! ### operations that write nothing -/
def gets (e : Env) : List AO → Option (List O)
  | [] => some []
  | a :: as => match a.get e, gets e as with
    | some o, some os => some (o :: os)
    | _, _ => none
/-- r: what an operation asks, by the values; fo: what it gives, by the things -/
def Prim (G : Cl) (r : List V → Hp → VK → Prop) (fo : List O → Option O) : Prop :=
  ∀ (R : Addr → Prop) (s : St) (e : Env) (A B : List Addr) (H : Hp) (vs : List V) (os : List O) (o : O) (Q : VK), SR G R H s e A → OwA G H (fun a => a ∈ A ∨ R a) vs os B → fo os = some o →
    (∀ v H' A', SR G R H' (some v :: s) (some o :: e) A' → Fr0 H A H' A' → Q v H') → r vs H Q
/-- one that changes no heap and gives a value without an address -/
theorem prim_flat {r : List V → Hp → VK → Prop} {fo : List O → Option O} (h : ∀ (L : Addr → Prop) (B : List Addr) (H : Hp) (vs : List V) (os : List O) (o : O) (Q : VK), OwA G H L vs os B → fo os = some o → ∃ v d, o = .im d ∧ (∀ L', (∀ a, L' a → L a) → Im G H L' v d) ∧ (Q v H → r vs H Q)) : Prim G r fo := by
  intro R s e A B H vs os o Q S ow ho k
  obtain ⟨v, d, e1, im, q⟩ := h _ B H vs os o Q ow ho
  subst e1
  exact q (k v H A ⟨.so (A := []) (.im (im _ fun _ z => z)) S.sl, S.nd, S.dj, S.ft⟩ Fr.refl)
/-- the things that the arguments stand for -/
theorem gets_ow {R : Addr → Prop} {H : Hp} {s : St} {e : Env} : ∀ {as : List AO} {vs : List V} {os : List O} {A : List Addr} {L : Addr → Prop}, SlA G H L (vs.map some ++ s) (as.map AO.cell ++ e) A → vs.length = as.length →
    (∀ (j : Nat) (a : AO) (v : V), as[j]? = some a → vs[j]? = some v → a.fits s v) → gets e as = some os → ∃ B, OwA G H L vs os B
  | [], [], os, A, L, r, _, _, h => by simp [gets] at h; subst h; exact ⟨[], .nil⟩
  | [], v :: vs, _, _, _, _, hl, _, _ => by simp at hl
  | a :: as, [], _, _, _, _, hl, _, _ => by simp at hl
  | a :: as, v :: vs, os, A, L, r, hl, ft, h => by
    unfold gets at h
    split at h
    · rename_i o os' h1 h2
      cases h
      obtain ⟨A1, A2, _, _, rs⟩ := SlA.split (xs := (v :: vs).map some) (cs := (a :: as).map AO.cell) (by simpa using hl) r
      cases a with
      | v o' =>
        simp [AO.get] at h1; subst h1
        simp only [List.map_cons, List.cons_append, AO.cell] at r
        cases r with
        | so h0 r =>
          obtain ⟨B, q⟩ := gets_ow (R := R) (vs := vs) r (by simpa using hl) (fun j b w hj hw => ft (j + 1) b w (by simpa using hj) (by simpa using hw)) h2
          exact ⟨_, .cons h0 q⟩
      | s i =>
        simp only [List.map_cons, List.cons_append, AO.cell] at r
        cases r with
        | no r =>
          obtain ⟨B, q⟩ := gets_ow (R := R) (vs := vs) r (by simpa using hl) (fun j b w hj hw => ft (j + 1) b w (by simpa using hj) (by simpa using hw)) h2
          have f0 : s[i]? = some (some v) := ft 0 (.s i) v rfl rfl
          have g0 : e[i]? = some (some o) := by
            simp only [AO.get] at h1
            cases q : e[i]? with
            | none => rw [q] at h1; cases h1
            | some c => rw [q] at h1; cases c with
              | none => cases h1
              | some c => simp at h1; rw [h1]
          obtain ⟨w, _, A2', _, hw, _, ho, _⟩ := SlA.at rs g0
          rw [f0] at hw; cases hw
          exact ⟨_, .cons ho q⟩
    · cases h
/-- under the top -/
theorem SR.under {R : Addr → Prop} {H : Hp} {s xs : St} {e cs : Env} {A : List Addr} {v : V} {o : O} (hl : xs.length = cs.length) (S : SR G R H (some v :: (xs ++ s)) (some o :: (cs ++ e)) A) : ∃ A', SR G R H (some v :: s) (some o :: e) A' ∧ ∀ a ∈ A', a ∈ A := by
  obtain ⟨B, C, hA, r1, r2⟩ := SlA.split (xs := [some v]) (cs := [some o]) rfl S.sl
  subst hA
  obtain ⟨C1, C2, hC, _, r3⟩ := SlA.split hl r2
  subst hC
  obtain ⟨n1, n2, n3⟩ := nodup3 (A1 := B) (A2 := C1) (A3 := C2) S.nd
  exact ⟨B ++ C2, S.less (r1.app r3) n1 fun a m => mem3 m, fun a m => mem3 m⟩
def fP (fo : List O → Option O) (g : Env → Res (List AO)) : Env → Res AO := fun e => (g e).bind fun as e1 => match gets e1 as with
  | some os => match fo os with
    | some o => .ok (.v o) e1
    | none => .no
  | none => .no
theorem run_prim {r : List V → Hp → VK → Prop} {fo : List O → Option O} (hp : Prim G r fo) {g : Env → Res (List AO)} {s : St} {H : Hp} {Q : VK} (h : tX G W (fP fo g) s H Q) : tL G W g s H fun vs H1 => r vs H1 Q := by
  obtain ⟨R, e, A, S, k⟩ := h
  refine ⟨R, e, A, S, ?_⟩
  unfold fP at k
  cases hg : g e with
  | no => rw [hg] at k; cases k
  | er x e' => rw [hg] at k; exact k
  | ok as e1 =>
    rw [hg] at k
    intro vs H1 A1 S1 hl ft F1
    dsimp only [Res.bind] at k
    cases h1 : gets e1 as with
    | none => rw [h1] at k; cases k
    | some os =>
      rw [h1] at k
      dsimp only at k
      cases h2 : fo os with
      | none => rw [h2] at k; cases k
      | some o =>
        rw [h2] at k
        obtain ⟨B, ow⟩ := gets_ow (R := R) S1.sl hl ft h1
        refine hp R _ _ A1 B H1 vs os o Q S1 ow h2 fun v H2 A2 S2 F2 => ?_
        obtain ⟨A3, S3, m3⟩ := SR.under (by simpa using hl) S2
        exact k v H2 A3 S3 trivial ((F1.trans F2).sub m3)
/-- a call of a built-in function -/
theorem px_bltf {id : String} {x : Str} {r : List V → Hp → VK → Prop} {fo : List O → Option O} {g : Env → Res (List AO)} {ex : Expr} {es : List Expr} {p pos : Pos} (hp : Prim G r fo) (hc : CallR X (.builtin id) r) (hg : Gl X x) (hm : X.mg x = none) (hv : bootBuiltins x = some (.builtin id)) (ha : PA X (ex :: es) (tL G W g))
    (hn : x ≠ "__name__" := by decide) (hdb : (x == ("__debug__" : Str)) = false := by decide) (he : starEach (ex :: es) X.env = (false, eval ex X.env) :: starEach es X.env := by rfl) (hpl : (backTo pos (starEach es X.env)).any (·.1) = false := by rfl) :
    PE X (.Call (.Name x p) (ex :: es) [] pos) (tX G W (fP fo g)) :=
  peW (pe_callB hc hg hm hv ha hn hdb he hpl) fun s H Q h => run_prim hp h
/-- .. of a built-in class -/
theorem px_bltt {T : String} {x : Str} {r : List V → Hp → VK → Prop} {fo : List O → Option O} {g : Env → Res (List AO)} {ex : Expr} {es : List Expr} {p pos : Pos} (hp : Prim G r fo) (hc : CallR X (.type T) r) (hg : Gl X x) (hm : X.mg x = none) (hv : bootBuiltins x = some (.type T)) (ha : PA X (ex :: es) (tL G W g))
    (hn : x ≠ "__name__" := by decide) (hdb : (x == ("__debug__" : Str)) = false := by decide) (he : starEach (ex :: es) X.env = (false, eval ex X.env) :: starEach es X.env := by rfl) (hpl : (backTo pos (starEach es X.env)).any (·.1) = false := by rfl) :
    PE X (.Call (.Name x p) (ex :: es) [] pos) (tX G W (fP fo g)) :=
  peW (pe_callTy hc hg hm hv ha hn hdb he hpl) fun s H Q h => run_prim hp h
/-- two operands: as an argument list of two -/
def r2L (r : R2) : List V → Hp → VK → Prop := fun vs H Q => match vs with
  | [x, y] => r x y H Q
  | _ => True
theorem run2 {r : R2} {fo : List O → Option O} (hp : Prim G (r2L r) fo) {f g : Env → Res AO} {s : St} {H : Hp} {Q : VK} (h : tX G W (fP fo (fCons f (fCons g fNil))) s H Q) : tOp r (tX G W f) (tX G W g) s H Q := by
  have q := run_prim hp h
  obtain ⟨R, e, A, S, k⟩ := q
  refine ⟨R, e, A, S, ?_⟩
  unfold fCons at k
  cases hf : f e with
  | no => rw [hf] at k; cases k
  | er x e' => rw [hf] at k; exact k
  | ok a e1 =>
    rw [hf] at k
    intro v H1 A1 S1 ft F1
    obtain ⟨B, C, hA, r1, S2⟩ := SR.frame (xs := [some v]) (cs := [a.cell]) rfl S1
    subst hA
    obtain ⟨nB, nC, nBC⟩ := List.nodup_append.mp S1.nd
    refine ⟨_, e1, C, S2, ?_⟩
    dsimp only [Res.bind, fNil] at k
    cases hg : g e1 with
    | no => rw [hg] at k; cases k
    | er x e' =>
      rw [hg] at k
      exact erE.sub k (fun a h => .inl h) (F1.sub fun a m => List.mem_append_right _ m)
    | ok b e2 =>
      rw [hg] at k
      intro w H2 A2 S3 ft2 F2
      obtain ⟨S4, F4⟩ := SR.unframe r1 nB (fun a m => S1.dj a (List.mem_append_left _ m)) S3 (fun a m z => nBC a z a m rfl) (fun a m => S1.dj a (List.mem_append_right _ m)) F2
      refine k [v, w] H2 (B ++ A2) S4 rfl (fun j c u hj hu => ?_) (F1.trans F4)
      match j with
      | 0 => simp at hj hu; subst hj; subst hu; exact ft
      | 1 => simp at hj hu; subst hj; subst hu; exact ft2
      | j + 2 => simp at hj
def f2 (fo : List O → Option O) (f g : Env → Res AO) : Env → Res AO := fP fo (fCons f (fCons g fNil))
theorem px_bin {op : Operator} {r : R2} {fo : List O → Option O} {a b : Expr} {f g : Env → Res AO} {pos : Pos} (ho : OpR X (binaryOp op) r) (hp : Prim G (r2L r) fo) (ha : PE X a (tX G W f)) (hb : PE X b (tX G W g)) : PE X (.BinOp a op b pos) (tX G W (f2 fo f g)) :=
  peW (pe_op ho ha hb) fun s H Q h => run2 hp h
theorem px_cmp {op : CmpOp} {r : R2} {fo : List O → Option O} {a b : Expr} {f g : Env → Res AO} {pos : Pos} (ho : OpR X (compareOp op) r) (hp : Prim G (r2L r) fo) (ha : PE X a (tX G W f)) (hb : PE X b (tX G W g)) (hm : behindInMarks op b = false) : PE X (.Compare a [op] [b] pos) (tX G W (f2 fo f g)) :=
  peW (pe_cmpR ho ha hb hm) fun s H Q h => run2 hp h
theorem px_un {op : UnaryOp} {r : V → Hp → VK → Prop} {fo : List O → Option O} {a : Expr} {f : Env → Res AO} {pos : Pos} (ho : UnR X (unaryOp op) r) (hp : Prim G (fun vs H Q => match vs with | [x] => r x H Q | _ => True) fo) (ha : PE X a (tX G W f)) :
    PE X (.UnaryOp op a pos) (tX G W (fP fo (fCons f fNil))) := by
  refine peW (pe_un ho ha) fun s H Q h => ?_
  obtain ⟨R, e, A, S, k⟩ := run_prim hp h
  refine ⟨R, e, A, S, ?_⟩
  unfold fCons at k
  cases hf : f e with
  | no => rw [hf] at k; cases k
  | er x e' => rw [hf] at k; exact k
  | ok a e1 =>
    rw [hf] at k
    intro v H1 A1 S1 ft F1
    dsimp only [Res.bind, fNil] at k
    exact k [v] H1 A1 S1 rfl (fun j c u hj hu => by
      match j with
      | 0 => simp at hj hu; subst hj; subst hu; exact ft
      | j + 1 => simp at hj) F1
/-- x[i] -/
theorem px_ix {r : R2} {fo : List O → Option O} {a b : Expr} {f g : Env → Res AO} {pos : Pos} (hr : IxR X r) (hp : Prim G (r2L r) fo) (ha : PE X a (tX G W f)) (hb : PE X b (tX G W g)) (hs : PlainIx b := by intro _ _; rfl) : PE X (.Subscript a b pos) (tX G W (f2 fo f g)) :=
  peW (pe_ix hr ha hb hs) fun s H Q h => run2 hp h
end
end PV

set_option Elab.async false
set_option linter.all false
set_option maxRecDepth 100000
set_option maxHeartbeats 4000000
/-! PVd: tests, displays, calls. -/
namespace PV
open PySem L2

section
variable {X : Cx} {W : WX} {G : Cl}
theorem get_ow {H : Hp} {L : Addr → Prop} {s : St} {e : Env} {A : List Addr} {v : V} {a : AO} {o : O} (r : SlA G H L (some v :: s) (a.cell :: e) A) (ft : a.fits s v) (h : a.get e = some o) : ∃ B, Ow G H L v o B := by
  cases a with
  | v o' =>
    simp [AO.get] at h; subst h
    simp only [AO.cell] at r
    cases r with
    | so h0 r => exact ⟨_, h0⟩
  | s i =>
    simp only [AO.cell] at r
    cases r with
    | no r =>
      have g0 : e[i]? = some (some o) := by
        simp only [AO.get] at h
        cases q : e[i]? with
        | none => rw [q] at h; cases h
        | some c => rw [q] at h; cases c with
          | none => cases h
          | some c => simp at h; rw [h]
      obtain ⟨w, _, A2', _, hw, _, ho, _⟩ := SlA.at r g0
      rw [show s[i]? = some (some v) from ft] at hw; cases hw
      exact ⟨_, ho⟩
def trD : D → Option Bool
  | .non => some false
  | .bl b => some b
  | .int i => some (i != 0)
  | .str x => if x.length ≤ sizeLine then some ((x.length : Int) != 0) else none
  | .lst xs => some (!xs.isEmpty)
  | .tup xs => some (!xs.isEmpty)
  | _ => none
def trO : O → Option Bool
  | .im d => trD d
  | .ls xs => some (!xs.isEmpty)
  | .ob _ _ _ => none
theorem emp2 {α β : Type} {xs : List α} {ys : List β} (h : xs.length = ys.length) : xs.isEmpty = ys.isEmpty := by
  cases xs <;> cases ys <;> first | rfl | simp at h
theorem tr_ok {H : Hp} {L : Addr → Prop} {v : V} {o : O} {B : List Addr} {k : Bool} (r : Ow G H L v o B) (h : trO o = some k) : TruV G.K v H k := by
  cases r with
  | ob _ _ _ => cases h
  | ls h0 r =>
    have e := Option.some.inj (show some _ = some k from h)
    subst e
    exact .inl ⟨_, .inl (.inl h0), by rw [emp2 r.length]⟩
  | im r =>
    cases r with
    | non => simp [trO, trD] at h; exact h
    | bl b => simp [trO, trD] at h; exact h.symm
    | int i => simp [trO, trD] at h; exact h.symm
    | str x =>
      simp only [trO, trD] at h
      split at h
      · rename_i hz; simp at h; exact ⟨hz, h.symm⟩
      · cases h
    | lst h0 r =>
      have e := Option.some.inj (show some _ = some k from h)
      subst e
      exact .inl ⟨_, h0.sq, by rw [emp2 r.length]⟩
    | tup h0 r =>
      have e := Option.some.inj (show some _ = some k from h)
      subst e
      exact .inr (.inl ⟨_, h0.sq, by rw [emp2 r.length]⟩)
    | dct _ _ _ _ => simp [trO, trD] at h
    | scr _ => simp [trO, trD] at h
    | ins _ _ _ _ => simp [trO, trD] at h
    | ty _ => simp [trO, trD] at h
    | cls _ => simp [trO, trD] at h
    | exc0 _ _ => simp [trO, trD] at h
    | exc _ _ _ _ _ _ => simp [trO, trD] at h
def trA (a : AO) (e : Env) : Option Bool := (a.get e).bind trO
def fTr (f : Env → Res AO) : Env → Res Bool := fun e => (f e).bind fun a e1 => match trA a e1 with
  | some k => .ok k e1
  | none => .no
theorem run_tr (hK : X.K = G.K) {f : Env → Res AO} {s : St} {H : Hp} {Q : Bool → Hp → Prop} (h : tT G W (fTr f) s H Q) : tX G W f s H fun x H' => ∃ k, TruV X.K x H' k ∧ Q k H' := by
  obtain ⟨R, e, A, S, k⟩ := h
  refine ⟨R, e, A, S, ?_⟩
  unfold fTr at k
  cases hf : f e with
  | no => rw [hf] at k; cases k
  | er x e' => rw [hf] at k; exact k
  | ok a e1 =>
    rw [hf] at k
    intro v H1 A1 S1 ft F1
    dsimp only [Res.bind] at k
    cases ht : trA a e1 with
    | none => rw [ht] at k; cases k
    | some b =>
      rw [ht] at k
      unfold trA at ht
      cases hg : a.get e1 with
      | none => rw [hg] at ht; cases ht
      | some o =>
        rw [hg] at ht
        obtain ⟨B, ow⟩ := get_ow S1.sl ft hg
        obtain ⟨A2, S2, m⟩ := S1.tail
        exact ⟨b, by rw [hK]; exact tr_ok ow ht, k H1 A2 S2 (F1.sub m)⟩
/-- any expression as a test, by its value's truth -/
theorem pt_any {a : Expr} {f : Env → Res AO} (ha : PE X a (tX G W f)) (hK : X.K = G.K := by rfl) (he : ∀ whole, isTrue a X.env whole = (do let v ← whole; standAt a.pos; holding [v] (truthy v)) := by intro _; rfl) : PT X a (tT G W (fTr f)) :=
  ptW (pt_truth ha he) fun s H Q h => run_tr hK h
def boolA : AO → Option Bool
  | .v (.im (.bl k)) => some k
  | _ => none
theorem boolA_ok {a : AO} {k : Bool} (h : boolA a = some k) : a = .v (.im (.bl k)) := by
  unfold boolA at h
  split at h
  · cases h; rfl
  · cases h
def fTb (f : Env → Res AO) : Env → Res Bool := fun e => (f e).bind fun a e1 => match boolA a with
  | some k => .ok k e1
  | none => .no
/-- a comparison as a test -/
theorem pt_cmp2 {op : CmpOp} {r : R2} {fo : List O → Option O} {a b : Expr} {f g : Env → Res AO} {pos : Pos} (ho : OpR X (compareOp op) r) (hp : Prim G (r2L r) fo) (ha : PE X a (tX G W f)) (hb : PE X b (tX G W g)) (hm : behindInMarks op b = false) :
    PT X (.Compare a [op] [b] pos) (tT G W (fTb (f2 fo f g))) := by
  refine ptW (pt_cmpR ho ha hb hm) fun s H Q h => ?_
  refine run2 hp ?_
  obtain ⟨R, e, A, S, k⟩ := h
  refine ⟨R, e, A, S, ?_⟩
  unfold fTb at k
  have eq0 : fP fo (fCons f (fCons g fNil)) e = f2 fo f g e := rfl
  rw [eq0]
  cases hf : f2 fo f g e with
  | no => rw [hf] at k; cases k
  | er x e' => rw [hf] at k; exact k
  | ok a e1 =>
    rw [hf] at k
    dsimp only [Res.bind] at k
    intro v H1 A1 S1 ft F1
    cases hb : boolA a with
    | none => rw [hb] at k; cases k
    | some kk =>
      rw [hb] at k
      have ea := boolA_ok hb
      subst ea
      have sl : SlA G H1 (fun a => a ∈ A1 ∨ R a) (some v :: s) (some (.im (.bl kk)) :: e1) A1 := S1.sl
      cases sl with
      | so h0 r =>
        cases h0 with
        | im h0 =>
          cases h0
          obtain ⟨A2, S2, m⟩ := S1.tail
          exact ⟨_, rfl, k H1 A2 S2 (F1.sub m)⟩
def fAndT (f g : Env → Res Bool) : Env → Res Bool := fun e => (f e).bind fun b e1 => if b = true then g e1 else .ok false e1
def fOrT (f g : Env → Res Bool) : Env → Res Bool := fun e => (f e).bind fun b e1 => if b = true then .ok true e1 else g e1
def fNotT (f : Env → Res Bool) : Env → Res Bool := fun e => (f e).bind fun b e1 => .ok (!b) e1
theorem seqT {f : Env → Res Bool} {k : Bool → Env → Res Bool} {s : St} {H : Hp} {Q : Bool → Hp → Prop} (h : tT G W (fun e => (f e).bind k) s H Q) : tT G W f s H fun b H1 => tT G W (k b) s H1 Q := by
  obtain ⟨R, e, A, S, z⟩ := h
  refine ⟨R, e, A, S, ?_⟩
  dsimp only at z
  cases hf : f e with
  | no => rw [hf] at z; cases z
  | er x e' => rw [hf] at z; exact z
  | ok b e1 =>
    rw [hf] at z
    intro H1 A1 S1 F1
    refine ⟨R, e1, A1, S1, ?_⟩
    dsimp only [Res.bind] at z
    cases hk : k b e1 with
    | no => rw [hk] at z; cases z
    | er x e' => rw [hk] at z; exact z.sub (fun _ h => h) F1
    | ok c e2 =>
      rw [hk] at z
      intro H2 A2 S2 F2
      exact z H2 A2 S2 (F1.trans F2)
theorem tT_ok {b : Bool} {s : St} {H : Hp} {Q : Bool → Hp → Prop} (h : tT G W (fun e => .ok b e) s H Q) : Q b H := by
  obtain ⟨R, e, A, S, z⟩ := h
  exact z H A S Fr.refl
theorem pw_and1' {a : Expr} {f : Env → Res Bool} {pos : Pos} (ha : PT X a (tT G W f)) : PW X (.BoolOp .And [a] pos) (tT G W f) := pw_and1 ha
theorem pw_or1' {a : Expr} {f : Env → Res Bool} {pos : Pos} (ha : PT X a (tT G W f)) : PW X (.BoolOp .Or [a] pos) (tT G W f) := pw_or1 ha
theorem pwW {e : Expr} {t t' : TT} (h : PW X e t) (k : ∀ s H Q, t' s H Q → t s H Q) : PW X e t' := ⟨fun w pins s σ H Q I z => h.run w pins s σ H Q I (k σ H Q z)⟩
theorem pw_and' {a b : Expr} {rest : List Expr} {f g : Env → Res Bool} {pos : Pos} (ha : PT X a (tT G W f)) (hb : PW X (.BoolOp .And (b :: rest) pos) (tT G W g)) : PW X (.BoolOp .And (a :: b :: rest) pos) (tT G W (fAndT f g)) := by
  refine pwW (pw_and ha hb) fun s H Q h => ?_
  obtain ⟨R, e, A, S, z⟩ := seqT h
  refine ⟨R, e, A, S, ?_⟩
  cases hf : f e with
  | no => rw [hf] at z; cases z
  | er x e' => rw [hf] at z; exact z
  | ok b e1 =>
    rw [hf] at z
    intro H1 A1 S1 F1
    have q := z H1 A1 S1 F1
    cases b with
    | true => rw [if_pos rfl]; exact q
    | false => rw [if_neg Bool.false_ne_true]; exact tT_ok q
theorem pw_or' {a b : Expr} {rest : List Expr} {f g : Env → Res Bool} {pos : Pos} (ha : PT X a (tT G W f)) (hb : PW X (.BoolOp .Or (b :: rest) pos) (tT G W g)) : PW X (.BoolOp .Or (a :: b :: rest) pos) (tT G W (fOrT f g)) := by
  refine pwW (pw_or ha hb) fun s H Q h => ?_
  obtain ⟨R, e, A, S, z⟩ := seqT h
  refine ⟨R, e, A, S, ?_⟩
  cases hf : f e with
  | no => rw [hf] at z; cases z
  | er x e' => rw [hf] at z; exact z
  | ok b e1 =>
    rw [hf] at z
    intro H1 A1 S1 F1
    have q := z H1 A1 S1 F1
    cases b with
    | true => rw [if_pos rfl]; exact tT_ok q
    | false => rw [if_neg Bool.false_ne_true]; exact q
theorem pt_not' {a : Expr} {f : Env → Res Bool} {pos : Pos} (ha : PT X a (tT G W f)) : PT X (.UnaryOp .Not a pos) (tT G W (fNotT f)) := by
  refine ptW (pt_not ha) fun s H Q h => ?_
  obtain ⟨R, e, A, S, z⟩ := seqT h
  refine ⟨R, e, A, S, ?_⟩
  cases hf : f e with
  | no => rw [hf] at z; cases z
  | er x e' => rw [hf] at z; exact z
  | ok b e1 => rw [hf] at z; exact fun H1 A1 S1 F1 => tT_ok (z H1 A1 S1 F1)
/-- a if t else b -/
def fIf (t : Env → Res Bool) (f g : Env → Res AO) : Env → Res AO := fun e => (t e).bind fun b e1 => if b = true then f e1 else g e1
theorem px_if {c a b : Expr} {t : Env → Res Bool} {f g : Env → Res AO} {pos : Pos} (hc : PT X c (tT G W t)) (ha : PE X a (tX G W f)) (hb : PE X b (tX G W g)) : PE X (.IfExp c a b pos) (tX G W (fIf t f g)) := by
  refine peW (pe_ifExp hc ha hb) fun s H Q ⟨R, e, A, S, z⟩ => ⟨R, e, A, S, ?_⟩
  unfold fIf at z
  cases hf : t e with
  | no => rw [hf] at z; cases z
  | er x e' => rw [hf] at z; exact z
  | ok b e1 =>
    rw [hf] at z
    intro H1 A1 S1 F1
    have key : ∀ {h : Env → Res AO}, (match h e1 with
        | .ok a e' => ∀ v H' A', SR G R H' (some v :: s) (a.cell :: e') A' → a.fits s v → Fr0 H A H' A' → Q v H'
        | .er x e' => erE G W R s H A x e'
        | .no => False) → tX G W h s H1 Q := fun {h} y => by
      refine ⟨R, e1, A1, S1, ?_⟩
      cases hh : h e1 with
      | no => rw [hh] at y; cases y
      | er x e' => rw [hh] at y; exact y.sub (fun _ h => h) F1
      | ok a e2 => rw [hh] at y; exact fun v H2 A2 S2 ft F2 => y v H2 A2 S2 ft (F1.trans F2)
    cases b with
    | true => rw [if_pos rfl]; exact key z
    | false => rw [if_neg Bool.false_ne_true]; exact key z
/-- x or y, x and y as values -/
def fOr (f g : Env → Res AO) : Env → Res AO := fun e => (f e).bind fun a e1 => match trA a e1 with
  | some true => .ok a e1
  | some false => g e1
  | none => .no
def fAnd (f g : Env → Res AO) : Env → Res AO := fun e => (f e).bind fun a e1 => match trA a e1 with
  | some true => g e1
  | some false => .ok a e1
  | none => .no
theorem px_one {op : BoolOp} {a : Expr} {f : Env → Res AO} {pos : Pos} (h : PE X a (tX G W f)) : PE X (.BoolOp op [a] pos) (tX G W f) := pe_one h
theorem run_two {f : Env → Res AO} {s : St} {H : Hp} {R : Addr → Prop} {e : Env} {A : List Addr} {P : V → Hp → Prop} (S : SR G R H s e A)
    (hno : f e ≠ .no) (her : ∀ x e', f e = .er x e' → erE G W R s H A x e')
    (hok : ∀ a e1, f e = .ok a e1 → ∀ v H1 A1, SR G R H1 (some v :: s) (a.cell :: e1) A1 → a.fits s v → Fr0 H A H1 A1 → P v H1) : tX G W f s H P := by
  refine ⟨R, e, A, S, ?_⟩
  cases hf : f e with
  | no => exact (hno hf).elim
  | er x e' => exact her x e' hf
  | ok a e1 => exact hok a e1 hf
theorem key2 {R : Addr → Prop} {s : St} {H H1 : Hp} {A A1 : List Addr} {e1 : Env} {Q : VK} (S1 : SR G R H1 s e1 A1) (F1 : Fr0 H A H1 A1) {h : Env → Res AO} (y : match h e1 with
        | .ok a e' => ∀ v H' A', SR G R H' (some v :: s) (a.cell :: e') A' → a.fits s v → Fr0 H A H' A' → Q v H'
        | .er x e' => erE G W R s H A x e'
        | .no => False) : tX G W h s H1 Q := by
  refine ⟨R, e1, A1, S1, ?_⟩
  cases hh : h e1 with
  | no => rw [hh] at y; cases y
  | er x e' => rw [hh] at y; exact y.sub (fun _ h => h) F1
  | ok a e2 => rw [hh] at y; exact fun v H2 A2 S2 ft F2 => y v H2 A2 S2 ft (F1.trans F2)
theorem px_or {a b : Expr} {rest : List Expr} {f g : Env → Res AO} {pos : Pos} (ha : PE X a (tX G W f)) (hb : PE X (.BoolOp .Or (b :: rest) pos) (tX G W g)) (hK : X.K = G.K := by rfl) : PE X (.BoolOp .Or (a :: b :: rest) pos) (tX G W (fOr f g)) := by
  refine peW (pe_orT ha hb) fun s H Q ⟨R, e, A, S, z⟩ => ?_
  unfold fOr at z
  refine run_two S (fun hf => by rw [hf] at z; cases z) (fun x e' hf => by rw [hf] at z; exact z) fun a e1 hf v H1 A1 S1 ft F1 => ?_
  rw [hf] at z
  dsimp only [Res.bind] at z
  cases ht : trA a e1 with
  | none => rw [ht] at z; cases z
  | some b =>
    rw [ht] at z
    unfold trA at ht
    cases hg : a.get e1 with
    | none => rw [hg] at ht; cases ht
    | some o =>
      rw [hg] at ht
      obtain ⟨B, ow⟩ := get_ow S1.sl ft hg
      refine ⟨b, by rw [hK]; exact tr_ok ow ht, ?_⟩
      cases b with
      | true => rw [if_pos rfl]; exact z v H1 A1 S1 ft F1
      | false =>
        rw [if_neg Bool.false_ne_true]
        obtain ⟨A2, S2, m⟩ := S1.tail
        exact key2 S2 (F1.sub m) z
theorem px_and {a b : Expr} {rest : List Expr} {f g : Env → Res AO} {pos : Pos} (ha : PE X a (tX G W f)) (hb : PE X (.BoolOp .And (b :: rest) pos) (tX G W g)) (hK : X.K = G.K := by rfl) : PE X (.BoolOp .And (a :: b :: rest) pos) (tX G W (fAnd f g)) := by
  refine peW (pe_andT ha hb) fun s H Q ⟨R, e, A, S, z⟩ => ?_
  unfold fAnd at z
  refine run_two S (fun hf => by rw [hf] at z; cases z) (fun x e' hf => by rw [hf] at z; exact z) fun a e1 hf v H1 A1 S1 ft F1 => ?_
  rw [hf] at z
  dsimp only [Res.bind] at z
  cases ht : trA a e1 with
  | none => rw [ht] at z; cases z
  | some b =>
    rw [ht] at z
    unfold trA at ht
    cases hg : a.get e1 with
    | none => rw [hg] at ht; cases ht
    | some o =>
      rw [hg] at ht
      obtain ⟨B, ow⟩ := get_ow S1.sl ft hg
      refine ⟨b, by rw [hK]; exact tr_ok ow ht, ?_⟩
      cases b with
      | true =>
        rw [if_pos rfl]
        obtain ⟨A2, S2, m⟩ := S1.tail
        exact key2 S2 (F1.sub m) z
      | false => rw [if_neg Bool.false_ne_true]; exact z v H1 A1 S1 ft F1
/-- not x as a value -/
def fNot (f : Env → Res AO) : Env → Res AO := fun e => (f e).bind fun a e1 => match trA a e1 with
  | some k => .ok (.v (.im (.bl (!k)))) e1
  | none => .no
theorem px_not {a : Expr} {f : Env → Res AO} {pos : Pos} (ha : PE X a (tX G W f)) (hK : X.K = G.K := by rfl) : PE X (.UnaryOp .Not a pos) (tX G W (fNot f)) := by
  refine peW (pe_notT ha) fun s H Q ⟨R, e, A, S, z⟩ => ?_
  unfold fNot at z
  refine run_two S (fun hf => by rw [hf] at z; cases z) (fun x e' hf => by rw [hf] at z; exact z) fun a e1 hf v H1 A1 S1 ft F1 => ?_
  rw [hf] at z
  dsimp only [Res.bind] at z
  cases ht : trA a e1 with
  | none => rw [ht] at z; cases z
  | some b =>
    rw [ht] at z
    unfold trA at ht
    cases hg : a.get e1 with
    | none => rw [hg] at ht; cases ht
    | some o =>
      rw [hg] at ht
      obtain ⟨B, ow⟩ := get_ow S1.sl ft hg
      obtain ⟨A2, S2, m⟩ := S1.tail
      exact ⟨b, by rw [hK]; exact tr_ok ow ht, z _ H1 A2 ⟨.so (A := []) (.im (.bl _)) S2.sl, S2.nd, S2.dj, S2.ft⟩ trivial (F1.sub m)⟩
end
end PV

set_option Elab.async false
set_option linter.all false
set_option maxRecDepth 100000
set_option maxHeartbeats 4000000
/-! PVe: arguments handed on, displays, calls of defs. -/
namespace PV
open PySem L2

/-- how an argument is handed on: read only | lent (what stands in a slot comes back) | an item of a display -/
inductive Md where
  | im | bw | el
  deriving DecidableEq
def slotO (e : Env) (i : Nat) : Option O := (e[i]?).join
theorem slotO_eq {e : Env} {i : Nat} {o : O} (h : slotO e i = some o) : e[i]? = some (some o) := by
  unfold slotO at h
  cases q : e[i]? with
  | none => rw [q] at h; cases h
  | some c => rw [q] at h; cases c with
    | none => cases h
    | some c => simp at h; rw [h]
/-- one argument: what is handed on, the slots behind, where it comes back to -/
def pass1 (m : Md) (a : AO) (e : Env) : Option (O × Env × Option Nat) := match a with
  | .v o => some (if m = .im then .im o.d else o, e, none)
  | .s i => match slotO e i with
    | none => none
    | some o => if m = .bw then some (o, e.set i none, some i) else some (.im o.d, e.set i (some (.im o.d)), none)
def pass : List Md → List AO → Env → Option (List O × Env × List (Option Nat))
  | [], [], e => some ([], e, [])
  | m :: ms, a :: as, e => match pass1 m a e with
    | none => none
    | some (o, e1, w) => match pass ms as e1 with
      | none => none
      | some (os, e2, ws) => some (o :: os, e2, w :: ws)
  | _, _, _ => none
/-- lent things come back -/
def back : List (Option Nat) → List O → Env → Env
  | some i :: ws, o :: os, e => back ws os (e.set i (some o))
  | none :: ws, _ :: os, e => back ws os e
  | _, _, e => e
theorem back_len : ∀ (ws : List (Option Nat)) (os : List O) (e : Env), (back ws os e).length = e.length
  | some i :: ws, o :: os, e => by rw [back, back_len ws os]; simp
  | none :: ws, _ :: os, e => by rw [back, back_len ws os]
  | [], [], e => by simp [back]
  | [], _ :: _, e => by simp [back]
  | some _ :: _, [], e => by simp [back]
  | none :: _, [], e => by simp [back]

section
variable {X : Cx} {W : WX} {G : Cl} {R : Addr → Prop} {H : Hp}
theorem lt_of_get {α : Type} {l : List α} {i : Nat} {x : α} (h : l[i]? = some x) : i < l.length := by
  rcases Nat.lt_or_ge i l.length with z | z
  · exact z
  · rw [List.getElem?_eq_none z] at h; cases h
theorem set_self {α : Type} {l : List α} {i : Nat} {x : α} (h : l[i]? = some x) : l.set i x = l := by
  apply List.ext_getElem?; intro j
  by_cases hj : i = j
  · subst hj; rw [List.getElem?_set_self (lt_of_get h), h]
  · rw [List.getElem?_set_ne hj]
/-- a cell may go from one place to another that holds the same value -/
theorem SR.shift {s : St} {e : Env} {A : List Addr} {p i : Nat} {o : O} {v : V} (S : SR G R H s e A) (hp : e[p]? = some (some o)) (hv : s[p]? = some (some v)) (hi : s[i]? = some (some v)) :
    ∃ A', SR G R H s ((e.set p none).set i (some o)) A' ∧ ∀ a ∈ A', a ∈ A := by
  obtain ⟨w, A1, h1, S1, m1⟩ := S.move hp
  rw [hv] at h1; cases h1
  obtain ⟨A2, S2, m2⟩ := S1.store (i := i) (lt_of_get hi)
  rw [set_self hi] at S2
  exact ⟨A2, S2, fun a m => m1 a (m2 a m)⟩
/-- a slot's thing read into another place of the same value -/
theorem SR.copy {s : St} {e : Env} {A : List Addr} {p i : Nat} {o : O} {v : V} (S : SR G R H s e A) (hp : e[p]? = some (some o)) (hv : s[p]? = some (some v)) (hi : s[i]? = some (some v)) :
    ∃ A', SR G R H s ((e.set p (some (.im o.d))).set i (some (.im o.d))) A' ∧ ∀ a ∈ A', a ∈ A := by
  obtain ⟨w, A1, h1, S1, m1⟩ := S.read hp
  rw [hv] at h1; cases h1
  obtain ⟨A2, S2, m2⟩ := S1.store (i := i) (lt_of_get hi)
  rw [set_self hi] at S2
  exact ⟨A2, S2, fun a m => m1 a (m2 a m)⟩
/-- a cell let go in its place -/
theorem SR.soft {s : St} {e : Env} {A : List Addr} {i : Nat} {o : O} (S : SR G R H s e A) (hi : e[i]? = some (some o)) : ∃ A', SR G R H s (e.set i (some (.im o.d))) A' ∧ ∀ a ∈ A', a ∈ A := by
  obtain ⟨v, A1, h1, S1, m1⟩ := S.read hi
  obtain ⟨A2, S2, m2⟩ := S1.tail
  exact ⟨A2, S2, fun a m => m1 a (m2 a m)⟩
theorem set_app {α : Type} (l r : List α) (i : Nat) (x : α) : (l ++ r).set (l.length + i) x = l ++ r.set i x := by
  induction l with
  | nil => simp
  | cons y l ih => simp [Nat.succ_add, ih]
theorem set_app0 {α : Type} (l r : List α) (y x : α) : (l ++ y :: r).set l.length x = l ++ x :: r := by
  have := set_app l (y :: r) 0 x
  simpa using this
theorem get_app {α : Type} (l r : List α) (i : Nat) : (l ++ r)[l.length + i]? = r[i]? := by
  rw [List.getElem?_append_right (by omega)]; congr 1; omega
/-- the arguments, as they are handed on -/
theorem SR.passes {s : St} : ∀ {ms : List Md} {as : List AO} {vs : List V} {e e' : Env} {os : List O} {ws : List (Option Nat)} {A : List Addr} (pv : St) (pre : Env), pv.length = pre.length → SR G R H (pv ++ (vs.map some ++ s)) (pre ++ (as.map AO.cell ++ e)) A → vs.length = as.length →
    (∀ (j : Nat) (a : AO) (v : V), as[j]? = some a → vs[j]? = some v → a.fits s v) → pass ms as e = some (os, e', ws) →
    ∃ A', SR G R H (pv ++ (vs.map some ++ s)) (pre ++ (os.map some ++ e')) A' ∧ (∀ a ∈ A', a ∈ A) ∧ vs.length = os.length ∧ ws.length = os.length ∧ e'.length = e.length ∧ ∀ (j i : Nat) (v : V), ws[j]? = some (some i) → vs[j]? = some v → s[i]? = some (some v)
  | [], [], vs, e, e', os, ws, A, pv, pre, hl, S, hv, ft, h => by
    simp [pass] at h
    obtain ⟨rfl, rfl, rfl⟩ := h
    exact ⟨A, S, fun _ m => m, hv, rfl, rfl, fun j i v h => by simp at h⟩
  | [], _ :: _, _, _, _, _, _, _, _, _, _, _, _, _, h => by simp [pass] at h
  | _ :: _, [], _, _, _, _, _, _, _, _, _, _, _, _, h => by simp [pass] at h
  | m :: ms, a :: as, [], _, _, _, _, _, _, _, _, _, hv, _, _ => by simp at hv
  | m :: ms, a :: as, v :: vs, e, e', os, ws, A, pv, pre, hl, S, hv, ft, h => by
    have hv' : vs.length = as.length := by simpa using hv
    have ft' : ∀ (j : Nat) (a : AO) (v : V), as[j]? = some a → vs[j]? = some v → a.fits s v := fun j b w hj hw => ft (j + 1) b w (by simpa using hj) (by simpa using hw)
    unfold pass at h
    cases h1 : pass1 m a e with
    | none => rw [h1] at h; cases h
    | some r =>
      obtain ⟨o, e1, w⟩ := r
      rw [h1] at h
      dsimp only at h
      cases h2 : pass ms as e1 with
      | none => rw [h2] at h; cases h
      | some r =>
        obtain ⟨os', e2, ws'⟩ := r
        rw [h2] at h
        cases h
        have S0 : SR G R H (pv ++ (some v :: (vs.map some ++ s))) (pre ++ (a.cell :: (as.map AO.cell ++ e))) A := S
        -- the one argument
        have one : ∃ A1, SR G R H (pv ++ (some v :: (vs.map some ++ s))) (pre ++ (some o :: (as.map AO.cell ++ e1))) A1 ∧ (∀ a ∈ A1, a ∈ A) ∧ e1.length = e.length ∧ ∀ i, w = some i → s[i]? = some (some v) := by
          have hplace : ∀ c : Option O, (pre ++ (c :: (as.map AO.cell ++ e)))[pre.length]? = some c := fun c => by rw [List.getElem?_append_right (Nat.le_refl _)]; simp
          have hval : (pv ++ (some v :: (vs.map some ++ s)))[pre.length]? = some (some v) := by rw [← hl, List.getElem?_append_right (Nat.le_refl _)]; simp
          cases a with
          | v o' =>
            simp only [pass1, Option.some.injEq, Prod.mk.injEq] at h1
            obtain ⟨h3, rfl, rfl⟩ := h1
            by_cases hm : m = .im
            · rw [if_pos hm] at h3; subst h3
              obtain ⟨A1, S1, m1⟩ := S0.soft (i := pre.length) (hplace _)
              rw [set_app0] at S1
              exact ⟨A1, S1, m1, rfl, fun i h => by cases h⟩
            · rw [if_neg hm] at h3; subst h3
              exact ⟨A, S0, fun _ m => m, rfl, fun i h => by cases h⟩
          | s i =>
            have fi : s[i]? = some (some v) := ft 0 (.s i) v rfl rfl
            simp only [pass1] at h1
            cases h4 : slotO e i with
            | none => rw [h4] at h1; cases h1
            | some o' =>
              rw [h4] at h1
              dsimp only at h1
              have g4 := slotO_eq h4
              have li := lt_of_get g4
              -- where the slot stands in the whole
              have ix : ∀ (c : Option O), (pre ++ (c :: (as.map AO.cell ++ e)))[pre.length + (1 + (as.length + i))]? = some (some o') := fun c => by
                rw [get_app, Nat.add_comm 1, List.getElem?_cons_succ]
                have := get_app (as.map AO.cell) e i
                rw [List.length_map] at this
                rw [this, g4]
              have iv : (pv ++ (some v :: (vs.map some ++ s)))[pre.length + (1 + (as.length + i))]? = some (some v) := by
                rw [← hl, get_app, Nat.add_comm 1, List.getElem?_cons_succ]
                have := get_app (vs.map some) s i
                rw [List.length_map, hv'] at this
                rw [this, fi]
              have st : ∀ (c d : Option O), (pre ++ (c :: (as.map AO.cell ++ e))).set (pre.length + (1 + (as.length + i))) d = pre ++ (c :: (as.map AO.cell ++ e.set i d)) := fun c d => by
                rw [set_app, Nat.add_comm 1, List.set_cons_succ]
                have := set_app (as.map AO.cell) e i d
                rw [List.length_map] at this
                rw [this]
              by_cases hm : m = .bw
              · rw [if_pos hm] at h1
                cases h1
                obtain ⟨A1, S1, m1⟩ := S0.shift (p := pre.length + (1 + (as.length + i))) (i := pre.length) (ix _) iv hval
                rw [st, set_app0] at S1
                exact ⟨A1, S1, m1, by simp, fun j h => by cases h; exact fi⟩
              · rw [if_neg hm] at h1
                cases h1
                obtain ⟨A1, S1, m1⟩ := S0.copy (p := pre.length + (1 + (as.length + i))) (i := pre.length) (ix _) iv hval
                rw [st, set_app0] at S1
                exact ⟨A1, S1, m1, by simp, fun j h => by cases h⟩
        obtain ⟨A1, S1, m1, l1, w1⟩ := one
        have S2 : SR G R H ((pv ++ [some v]) ++ (vs.map some ++ s)) ((pre ++ [some o]) ++ (as.map AO.cell ++ e1)) A1 := by
          rw [List.append_assoc, List.append_assoc]; exact S1
        obtain ⟨A2, S3, m2, l2, l3, l4, w2⟩ := SR.passes (ms := ms) (pv ++ [some v]) (pre ++ [some o]) (by simp [hl]) S2 hv' ft' h2
        refine ⟨A2, ?_, fun a m => m1 a (m2 a m), by simp [l2], by simp [l3], by rw [l4, l1], fun j i u hj hu => ?_⟩
        · rw [List.append_assoc, List.append_assoc] at S3; exact S3
        · cases j with
          | zero => simp at hj hu; subst hu; exact w1 i hj
          | succ j => exact w2 j i u (by simpa using hj) (by simpa using hu)
/-- what was lent comes back -/
theorem SR.backs {s : St} : ∀ {ws : List (Option Nat)} {os : List O} {vs : List V} {e : Env} {A : List Addr} (pv : St) (pre : Env), pv.length = pre.length → SR G R H (pv ++ (vs.map some ++ s)) (pre ++ (os.map some ++ e)) A → vs.length = os.length →
    (∀ (j i : Nat) (v : V), ws[j]? = some (some i) → vs[j]? = some v → s[i]? = some (some v)) →
    ∃ A' cs, cs.length = pre.length + os.length ∧ cs.take pre.length = pre ∧ SR G R H (pv ++ (vs.map some ++ s)) (cs ++ back ws os e) A' ∧ ∀ a ∈ A', a ∈ A
  | [], os, vs, e, A, pv, pre, hl, S, hv, ft => ⟨A, pre ++ os.map some, by simp, by simp, by
      have : back [] os e = e := by cases os <;> rfl
      rw [this, List.append_assoc]; exact S, fun _ m => m⟩
  | w :: ws, [], vs, e, A, pv, pre, hl, S, hv, ft => ⟨A, pre, by simp, by simp, by
      have : back (w :: ws) [] e = e := by cases w <;> rfl
      rw [this]; exact S, fun _ m => m⟩
  | w :: ws, o :: os, [], e, A, pv, pre, hl, S, hv, ft => by simp at hv
  | w :: ws, o :: os, v :: vs, e, A, pv, pre, hl, S, hv, ft => by
    have hv' : vs.length = os.length := by simpa using hv
    have ft' : ∀ (j i : Nat) (v : V), ws[j]? = some (some i) → vs[j]? = some v → s[i]? = some (some v) := fun j i u hj hu => ft (j + 1) i u (by simpa using hj) (by simpa using hu)
    cases w with
    | none =>
      have S2 : SR G R H ((pv ++ [some v]) ++ (vs.map some ++ s)) ((pre ++ [some o]) ++ (os.map some ++ e)) A := by
        rw [List.append_assoc, List.append_assoc]; exact S
      obtain ⟨A2, cs, c1, c2, S3, m⟩ := SR.backs (ws := ws) (pv ++ [some v]) (pre ++ [some o]) (by simp [hl]) S2 hv' ft'
      refine ⟨A2, cs, by simp at c1 ⊢; omega, ?_, ?_, m⟩
      · have := congrArg (List.take pre.length) c2
        rw [List.take_take] at this
        simpa using this
      · rw [List.append_assoc] at S3; exact S3
    | some i =>
      have fi : s[i]? = some (some v) := ft 0 i v rfl rfl
      have hplace : (pre ++ (some o :: (os.map some ++ e)))[pre.length]? = some (some o) := by rw [List.getElem?_append_right (Nat.le_refl _)]; simp
      have hval : (pv ++ (some v :: (vs.map some ++ s)))[pre.length]? = some (some v) := by rw [← hl, List.getElem?_append_right (Nat.le_refl _)]; simp
      have iv : (pv ++ (some v :: (vs.map some ++ s)))[pre.length + (1 + (os.length + i))]? = some (some v) := by
        rw [← hl, get_app, Nat.add_comm 1, List.getElem?_cons_succ]
        have := get_app (vs.map some) s i
        rw [List.length_map, hv'] at this
        rw [this, fi]
      have st : ∀ (c d : Option O), (pre ++ (c :: (os.map some ++ e))).set (pre.length + (1 + (os.length + i))) d = pre ++ (c :: (os.map some ++ e.set i d)) := fun c d => by
        rw [set_app, Nat.add_comm 1, List.set_cons_succ]
        have := set_app (os.map some) e i d
        rw [List.length_map] at this
        rw [this]
      have S0 : SR G R H (pv ++ (some v :: (vs.map some ++ s))) (pre ++ (some o :: (os.map some ++ e))) A := S
      obtain ⟨A1, S1, m1⟩ := S0.shift (p := pre.length) (i := pre.length + (1 + (os.length + i))) hplace hval iv
      rw [set_app0, st] at S1
      have S2 : SR G R H ((pv ++ [some v]) ++ (vs.map some ++ s)) ((pre ++ [none]) ++ (os.map some ++ e.set i (some o))) A1 := by
        rw [List.append_assoc, List.append_assoc]; exact S1
      obtain ⟨A2, cs, c1, c2, S3, m⟩ := SR.backs (ws := ws) (pv ++ [some v]) (pre ++ [none]) (by simp [hl]) S2 hv' ft'
      refine ⟨A2, cs, by simp at c1 ⊢; omega, ?_, ?_, fun a z => m1 a (m a z)⟩
      · have := congrArg (List.take pre.length) c2
        rw [List.take_take] at this
        simpa using this
      · rw [List.append_assoc] at S3; exact S3
end
end PV

set_option Elab.async false
set_option linter.all false
set_option maxRecDepth 100000
set_option maxHeartbeats 4000000
/-! PVf: displays and calls of defs. -/
namespace PV
open PySem L2

theorem pass1_im {a : AO} {e e' : Env} {o : O} {w : Option Nat} (h : pass1 .im a e = some (o, e', w)) : o = .im o.d ∧ w = none := by
  cases a with
  | v o' =>
    simp only [pass1, if_pos, Option.some.injEq, Prod.mk.injEq] at h
    obtain ⟨h1, _, h3⟩ := h
    rw [← h1, ← h3]; exact ⟨by rw [O.d], rfl⟩
  | s i =>
    simp only [pass1] at h
    cases q : slotO e i with
    | none => rw [q] at h; cases h
    | some o' =>
      rw [q] at h
      dsimp only at h
      rw [if_neg (by decide)] at h
      cases h
      exact ⟨by rw [O.d], rfl⟩
theorem pass_im : ∀ {as : List AO} {n : Nat} {e e' : Env} {os : List O} {ws : List (Option Nat)}, pass (List.replicate n .im) as e = some (os, e', ws) → os = (os.map O.d).map O.im
  | [], 0, _, _, _, _, h => by simp [pass] at h; obtain ⟨rfl, _, _⟩ := h; rfl
  | [], n + 1, _, _, _, _, h => by simp [pass, List.replicate_succ] at h
  | _ :: _, 0, _, _, _, _, h => by simp [pass] at h
  | a :: as, n + 1, e, e', os, ws, h => by
    rw [List.replicate_succ] at h
    unfold pass at h
    cases h1 : pass1 .im a e with
    | none => rw [h1] at h; cases h
    | some r =>
      obtain ⟨o, e1, w⟩ := r
      rw [h1] at h
      dsimp only at h
      cases h2 : pass (List.replicate n .im) as e1 with
      | none => rw [h2] at h; cases h
      | some r =>
        obtain ⟨os', e2, ws'⟩ := r
        rw [h2] at h
        cases h
        have i1 := (pass1_im h1).1
        have i2 := pass_im h2
        rw [List.map_cons, List.map_cons, ← i1, ← i2]
section
variable {X : Cx} {W : WX} {G : Cl} {R : Addr → Prop} {H : Hp}
theorem SlA.ims {L : Addr → Prop} : ∀ {vs : List V} {ds : List D} {A : List Addr}, SlA G H L (vs.map some) ((ds.map O.im).map some) A → ImA G H L vs ds ∧ A = []
  | [], [], _, .nil => ⟨.nil, rfl⟩
  | [], _ :: _, _, r => by cases r
  | _ :: _, [], _, r => by cases r
  | v :: vs, d :: ds, _, .so h r => by
    obtain ⟨h2, rfl⟩ := SlA.ims r
    cases h with
    | im h => exact ⟨.cons h h2, rfl⟩
/-- a new thing that is never written -/
theorem SR.newd {s : St} {e : Env} {A : List Addr} {p : Addr} {u : HO} {d : D} (S : SR G R H s e A) (hp : H p = none) (im : ∀ L, (∀ a, L a → a ∈ A ∨ R a) → Im G (upd H p u) L (.ref p) d) :
    SR G R (upd H p u) (some (.ref p) :: s) (some (.im d) :: e) A ∧ Fr0 H A (upd H p u) A := by
  have S1 := S.push (u := u) hp
  exact ⟨⟨.so (A := []) (.im (im _ fun _ h => h)) S1.sl, S1.nd, S1.dj, S1.ft⟩, Fr.push hp⟩
theorem go_push {L : Addr → Prop} {p : Addr} {u : HO} (hp : H p = none) : Go H L (upd H p u) L :=
  ⟨fun a o h _ => by rw [upd_ne (fun z => by rw [z, hp] at h; cases h)]; exact h, fun _ _ _ n => n⟩
/-- [a, b, ..] -/
def fLst (g : Env → Res (List AO)) : Env → Res AO := fun e => (g e).bind fun as e1 => match pass (List.replicate as.length .el) as e1 with
  | none => .no
  | some (os, e2, _) => if os.length ≤ sizeLine then .ok (.v (.ls os)) e2 else .no
theorem px_lst {es : List Expr} {g : Env → Res (List AO)} {pos : Pos} (ha : PA X es (tL G W g)) : PE X (.List es pos) (tX G W (fLst g)) := by
  refine peW (pe_lst ha) fun s H Q ⟨R, e, A, S, k⟩ => ⟨R, e, A, S, ?_⟩
  unfold fLst at k
  cases hg : g e with
  | no => rw [hg] at k; cases k
  | er x e' => rw [hg] at k; exact k
  | ok as e1 =>
    rw [hg] at k
    intro vs H1 A1 S1 hl ft F1
    dsimp only [Res.bind] at k
    cases hp : pass (List.replicate as.length .el) as e1 with
    | none => rw [hp] at k; cases k
    | some r =>
      obtain ⟨os, e2, ws⟩ := r
      rw [hp] at k
      dsimp only at k
      obtain ⟨A2, S2, m2, l2, _, _, _⟩ := SR.passes [] [] rfl S1 hl ft hp
      have S2 : SR G R H1 (vs.map some ++ s) (os.map some ++ e2) A2 := S2
      by_cases hz : os.length ≤ sizeLine
      · rw [if_pos hz] at k
        refine ⟨by rw [l2]; exact hz, fun p np => ?_⟩
        obtain ⟨S3, F3⟩ := SR.newl (q := false) (s := s) (e := e2) S2 l2 np
        -- what stood below the items
        obtain ⟨B, C, hA, r1, r2⟩ := SlA.split (by simpa using l2) S2.sl
        refine k _ _ _ ?_ trivial ((F1.sub m2).trans F3)
        exact S3
      · rw [if_neg hz] at k; cases k
/-- (a, b, ..) -/
def fTup (g : Env → Res (List AO)) : Env → Res AO := fun e => (g e).bind fun as e1 => match pass (List.replicate as.length .im) as e1 with
  | none => .no
  | some (os, e2, _) => if os.length ≤ sizeLine then .ok (.v (.im (.tup (os.map O.d)))) e2 else .no
theorem px_tup {es : List Expr} {g : Env → Res (List AO)} {x1 : Nat} {pos : Pos} (ha : PA X es (tL G W g)) : PE X (.Tuple es x1 pos) (tX G W (fTup g)) := by
  refine peW (pe_tup ha) fun s H Q ⟨R, e, A, S, k⟩ => ⟨R, e, A, S, ?_⟩
  unfold fTup at k
  cases hg : g e with
  | no => rw [hg] at k; cases k
  | er x e' => rw [hg] at k; exact k
  | ok as e1 =>
    rw [hg] at k
    intro vs H1 A1 S1 hl ft F1
    dsimp only [Res.bind] at k
    cases hp : pass (List.replicate as.length .im) as e1 with
    | none => rw [hp] at k; cases k
    | some r =>
      obtain ⟨os, e2, ws⟩ := r
      rw [hp] at k
      dsimp only at k
      obtain ⟨A2, S2, m2, l2, _, _, _⟩ := SR.passes [] [] rfl S1 hl ft hp
      have S2 : SR G R H1 (vs.map some ++ s) (os.map some ++ e2) A2 := S2
      by_cases hz : os.length ≤ sizeLine
      · rw [if_pos hz] at k
        refine ⟨by rw [l2]; exact hz, fun p np => ?_⟩
        obtain ⟨B, C, hA, r1, r2⟩ := SlA.split (by simpa using l2) S2.sl
        rw [pass_im hp] at r1
        obtain ⟨im, _⟩ := SlA.ims r1
        obtain ⟨A3, S3, m3⟩ := SR.drop (by simpa using l2) S2
        obtain ⟨S4, F4⟩ := S3.newd (u := .tup vs) (d := .tup (os.map O.d)) np fun L hL => .tup (.inl ⟨.inl upd_same, fun z => by
            rcases hL _ z with z | z
            · obtain ⟨u, hu⟩ := S3.dom _ z; rw [np] at hu; cases hu
            · obtain ⟨u, hu⟩ := S3.ft _ z; rw [np] at hu; cases hu⟩) ((im.go (Go.less fun a h => (hL a h).imp (m3 a) id)).go (go_push np))
        exact k _ _ _ S4 trivial (((F1.sub m2).sub m3).trans F4)
      · rw [if_neg hz] at k; cases k

/-! ### calls -/
inductive FRes where
  | ok (o : O) (os : List O) | er (x : D) (os : List O) | no
/-- what a def is worth: F of the things handed in -/
def SpF (G : Cl) (n : Nat) (F : List O → FRes) : Sp := fun vs H Q E => vs.length = n ∧ ∃ R os A, SR G R H (vs.map some) (os.map some) A ∧ match F os with
  | .ok o os' => ∀ v H' A', SR G R H' (some v :: vs.map some) (some o :: os'.map some) A' → Fr0 H A H' A' → Q v H'
  | .er x os' => ∀ c d H' A', SR G R H' (vs.map some) (os'.map some) A' → XR G H' (fun a => a ∈ A' ∨ R a) c d x → Fr0 H A H' A' → E c d H'
  | .no => False
theorem XR.less {L L' : Addr → Prop} {c : Value} {d : Option Addr} {x : D} (r : XR G H L c d x) (h : ∀ a, L' a → L a) : XR G H L' c d x := by
  cases r with
  | non => exact .non
  | dic a1 a2 a3 a4 => exact .dic a1 (fun z => a2 (h _ z)) a3 (a4.go (Go.less h))
/-- what stands behind is put aside -/
theorem SR.head {s xs : St} {e cs : Env} {A : List Addr} (hl : xs.length = cs.length) (S : SR G R H (xs ++ s) (cs ++ e) A) :
    ∃ A1 A2, A = A1 ++ A2 ∧ SlA G H (fun a => a ∈ A ∨ R a) s e A2 ∧ SR G (fun a => R a ∨ a ∈ A2) H xs cs A1 := by
  obtain ⟨A1, A2, rfl, r1, r2⟩ := SlA.split hl S.sl
  have nd := List.nodup_append.mp S.nd
  refine ⟨A1, A2, rfl, r2, ⟨r1.go (Go.less fun a h => ?_) fun _ _ => rfl, nd.1, fun a m => ?_, fun a h => ?_⟩⟩
  · rcases h with h | h | h
    · exact .inl (List.mem_append_left _ h)
    · exact .inr h
    · exact .inl (List.mem_append_right _ h)
  · rintro (h | h)
    · exact S.dj a (List.mem_append_left _ m) h
    · exact nd.2.2 a m a h rfl
  · rcases h with h | h
    · exact S.ft a h
    · exact S.dom a (List.mem_append_right _ h)
theorem SR.unhead {s xs : St} {e cs : Env} {A1 A2 A' : List Addr} {H' : Hp} (r2 : SlA G H (fun a => a ∈ A1 ++ A2 ∨ R a) s e A2) (nd : A2.Nodup) (dj : ∀ a ∈ A2, ¬ R a) (S : SR G (fun a => R a ∨ a ∈ A2) H' xs cs A') (hA : ∀ a ∈ A1, a ∉ A2) (f : Fr0 H A1 H' A') :
    SR G R H' (xs ++ s) (cs ++ e) (A' ++ A2) ∧ Fr0 H (A1 ++ A2) H' (A' ++ A2) := by
  refine ⟨⟨?_, ?_, ?_, ?_⟩, ?_, ?_⟩
  · refine SlA.app (S.sl.go (Go.less fun a h => ?_) fun _ _ => rfl) (r2.go ⟨fun a o h n => f.st a o h (.inr fun m => n (.inl (List.mem_append_left _ m))), fun a o h n => ?_⟩ fun a m => ?_)
    · rcases h with h | h
      · rcases List.mem_append.mp h with h | h
        · exact .inl h
        · exact .inr (.inr h)
      · exact .inr (.inl h)
    · rintro (z | z)
      · rcases List.mem_append.mp z with z | z
        · rcases f.nw a z with y | y
          · exact n (.inl (List.mem_append_left _ y))
          · rw [h] at y; cases y
        · exact n (.inl (List.mem_append_right _ z))
      · exact n (.inr z)
    · obtain ⟨u, hu⟩ := r2.sub a m
      rw [hu, f.st a u hu (.inr fun z => hA a z m)]
  · refine List.nodup_append.mpr ⟨S.nd, nd, fun a m b m' z => ?_⟩
    subst z
    exact S.dj a m (.inr m')
  · intro a m
    rcases List.mem_append.mp m with m | m
    · exact fun h => S.dj a m (.inl h)
    · exact dj a m
  · exact fun a h => S.ft a (.inl h)
  · intro a o h k
    exact f.st a o h (k.imp id fun n m => n (List.mem_append_left _ m))
  · intro a m
    rcases List.mem_append.mp m with m | m
    · exact (f.nw a m).imp (List.mem_append_left _) id
    · exact .inl (List.mem_append_right _ m)
def fCall (F : List O → FRes) (ms : List Md) (dv : List D) (g : Env → Res (List AO)) : Env → Res AO := fun e => (g e).bind fun as e1 => match pass ms as e1 with
  | none => .no
  | some (os, e2, ws) => match F (os ++ dv.map O.im) with
    | .ok o os' => .ok (.v o) (back ws os' e2)
    | .er x os' => .er x (back ws os' e2)
    | .no => .no
theorem map_im {vs : List V} {ds : List D} {L : Addr → Prop} (h : ImA G H L vs ds) : SlA G H L (vs.map some) ((ds.map O.im).map some) [] := by
  induction vs generalizing ds with
  | nil => cases h; exact .nil
  | cons v vs ih =>
    cases h with
    | cons h r => exact .so (A := []) (.im h) (ih r)
/-- the call itself, from the arguments' reading to the def's promise -/
theorem run_call {n : Nat} {F : List O → FRes} {ms : List Md} {dv : List D} {dvs : List V} {g : Env → Res (List AO)} {s : St} {Q : VK} (hdv : ∀ H L, ImA G H L dvs dv)
    (h : tX G W (fCall F ms dv g) s H Q) (hlen : ∀ as e e1, g e = .ok as e1 → as.length + dvs.length = n) :
    tL G W g s H fun vs H1 => SpF G n F (vs ++ dvs) H1 Q (fun c d H' => W c d s H') := by
  obtain ⟨R, e, A, S, k⟩ := h
  refine ⟨R, e, A, S, ?_⟩
  unfold fCall at k
  cases hg : g e with
  | no => rw [hg] at k; cases k
  | er x e' => rw [hg] at k; exact k
  | ok as e1 =>
    rw [hg] at k
    intro vs H1 A1 S1 hl ft F1
    dsimp only [Res.bind] at k
    cases hp : pass ms as e1 with
    | none => rw [hp] at k; cases k
    | some r =>
      obtain ⟨os, e2, ws⟩ := r
      rw [hp] at k
      dsimp only at k
      obtain ⟨A2, S2, m2, l2, l3, l4, w2⟩ := SR.passes [] [] rfl S1 hl ft hp
      have S2 : SR G R H1 (vs.map some ++ s) (os.map some ++ e2) A2 := S2
      refine ⟨by rw [List.length_append, hl]; exact hlen as e e1 hg, ?_⟩
      obtain ⟨B, C, rfl, r2, S3⟩ := SR.head (xs := vs.map some) (cs := os.map some) (by simpa using l2) S2
      have S4 : SR G (fun a => R a ∨ a ∈ C) H1 ((vs ++ dvs).map some) ((os ++ dv.map O.im).map some) B := by
        rw [List.map_append, List.map_append]
        have q := S3.sl.app (map_im (hdv H1 (fun a => a ∈ B ∨ (R a ∨ a ∈ C))))
        rw [List.append_nil] at q
        exact ⟨q, S3.nd, S3.dj, S3.ft⟩
      obtain ⟨nB, nC, nBC⟩ := List.nodup_append.mp S2.nd
      have ll : (vs ++ dvs).length = (os ++ dv.map O.im).length := by simp [l2, (hdv H1 fun _ => False).length]
      have ww : ∀ (j i : Nat) (v : V), ws[j]? = some (some i) → (vs ++ dvs)[j]? = some v → s[i]? = some (some v) := fun j i v h1 h2 => by
        refine w2 j i v h1 ?_
        rw [List.getElem?_append_left (by have := lt_of_get h1; omega)] at h2
        exact h2
      refine ⟨_, _, _, S4, ?_⟩
      cases hF : F (os ++ dv.map O.im) with
      | no => rw [hF] at k; cases k
      | ok o os' =>
        rw [hF] at k
        intro v H2 A3 S5 F5
        obtain ⟨S6, F6⟩ := SR.unhead r2 nC (fun a m => S2.dj a (List.mem_append_right _ m)) S5 (fun a m z => nBC a m a z rfl) F5
        have lo : (vs ++ dvs).length = os'.length := by have := S5.len; simpa using this
        obtain ⟨A4, cs, c1, c2, S7, m7⟩ := SR.backs (ws := ws) (os := os') (vs := vs ++ dvs) [some v] [some o] rfl S6 lo ww
        cases cs with
        | nil => simp at c2
        | cons c cs =>
          simp at c2 c1
          subst c2
          have S8 : SR G R H2 (some v :: ((vs ++ dvs).map some ++ s)) (some o :: (cs ++ back ws os' e2)) A4 := S7
          obtain ⟨A5, S9, m9⟩ := SR.under (by rw [List.length_map, lo]; omega) S8
          exact k v H2 A5 S9 trivial (((F1.sub m2).trans F6).sub fun a m => m7 a (m9 a m))
      | er x os' =>
        rw [hF] at k
        intro c d H2 A3 S5 r5 F5
        obtain ⟨S6, F6⟩ := SR.unhead r2 nC (fun a m => S2.dj a (List.mem_append_right _ m)) S5 (fun a m z => nBC a m a z rfl) F5
        have lo : (vs ++ dvs).length = os'.length := by have := S5.len; simpa using this
        obtain ⟨A4, cs, c1, c2, S7, m7⟩ := SR.backs (ws := ws) (os := os') (vs := vs ++ dvs) [] [] rfl S6 lo ww
        have S8 : SR G R H2 ((vs ++ dvs).map some ++ s) (cs ++ back ws os' e2) A4 := S7
        obtain ⟨A5, S9, m9⟩ := SR.drop (by rw [List.length_map, lo]; simpa using c1.symm) S8
        refine k c d H2 A5 S9 (r5.less fun a h => ?_) (((F1.sub m2).trans F6).sub fun a m => m7 a (m9 a m))
        rcases h with h | h
        · rcases List.mem_append.mp (m7 a (m9 a h)) with h | h
          · exact .inl h
          · exact .inr (.inr h)
        · exact .inr (.inl h)
end
end PV

set_option Elab.async false
set_option linter.all false
set_option maxRecDepth 100000
set_option maxHeartbeats 4000000
/-! PVg: statements. -/
namespace PV
open PySem L2

inductive SRes where
  | nx (e : Env) | rt (o : O) (e : Env) | bk (e : Env) | ct (e : Env) | er (x : D) (e : Env) | no
/-- slots that are not stored anew -/
def keepB (B : List Nat) (s s' : St) : Prop := ∀ i ∈ B, s'[i]? = s[i]?
section
variable (G : Cl)
def WS (W : WX) (B : List Nat) (R : Addr → Prop) (D : Ends) (s : St) (H : Hp) (A : List Addr) : SRes → Prop
  | .nx e' => ∀ s' H' A', SR G R H' s' e' A' → keepB B s s' → Fr0 H A H' A' → D.nx s' H'
  | .bk e' => ∀ s' H' A', SR G R H' s' e' A' → keepB B s s' → Fr0 H A H' A' → D.bk s' H'
  | .ct e' => ∀ s' H' A', SR G R H' s' e' A' → keepB B s s' → Fr0 H A H' A' → D.ct s' H'
  | .rt o e' => ∀ v s' H' A', SR G R H' (some v :: s') (some o :: e') A' → keepB B s s' → Fr0 H A H' A' → D.rt v H'
  | .er x e' => ∀ c d s' H' A', SR G R H' s' e' A' → XR G H' (fun a => a ∈ A' ∨ R a) c d x → keepB B s s' → Fr0 H A H' A' → W c d s' H'
  | .no => False
/-- a statement's reading -/
def tS (W : WX) (B : List Nat) (f : Env → SRes) : TS := fun D s H => ∃ R e A, SR G R H s e A ∧ WS G W B R D s H A (f e)
end
section
variable {X : Cx} {W : WX} {G : Cl} {B : List Nat}
theorem keepB.refl {s : St} : keepB B s s := fun _ _ => rfl
theorem keepB.trans {s1 s2 s3 : St} (a : keepB B s1 s2) (b : keepB B s2 s3) : keepB B s1 s3 := fun i m => (b i m).trans (a i m)
theorem keepB.set {s : St} {i : Nat} {x : Option V} (h : i ∉ B) : keepB B s (s.set i x) := fun j m => by
  rw [List.getElem?_set_ne]
  intro z
  subst z
  exact h m
theorem WS.sub {R : Addr → Prop} {D : Ends} {s s1 : St} {H H1 : Hp} {A A1 : List Addr} {r : SRes} (h : WS G W B R D s H A r) (kb : keepB B s s1) (F : Fr0 H A H1 A1) : WS G W B R D s1 H1 A1 r := by
  cases r with
  | nx e' => exact fun s' H' A' S k f => h s' H' A' S (kb.trans k) (F.trans f)
  | bk e' => exact fun s' H' A' S k f => h s' H' A' S (kb.trans k) (F.trans f)
  | ct e' => exact fun s' H' A' S k f => h s' H' A' S (kb.trans k) (F.trans f)
  | rt o e' => exact fun v s' H' A' S k f => h v s' H' A' S (kb.trans k) (F.trans f)
  | er x e' => exact fun c d s' H' A' S r k f => h c d s' H' A' S r (kb.trans k) (F.trans f)
  | no => exact h
theorem psW {e : Stmt} {t t' : TS} (h : PS X e t) (k : ∀ D s H, t' D s H → t D s H) : PS X e t' := ⟨fun pins s σ H D I z => h.run pins s σ H D I (k D σ H z)⟩
theorem pssW {e : List Stmt} {t t' : TS} (h : PSs X e t) (k : ∀ D s H, t' D s H → t D s H) : PSs X e t' := ⟨fun pins s σ H D I z => h.run pins s σ H D I (k D σ H z)⟩

/-! ### blocks -/
def fNx : Env → SRes := fun e => .nx e
def fSeq (f g : Env → SRes) : Env → SRes := fun e => match f e with
  | .nx e1 => g e1
  | r => r
theorem qs_nil : PSs X [] (tS G W B fNx) := pssW pss_nil fun D s H ⟨R, e, A, S, z⟩ => z s H A S keepB.refl Fr.refl
theorem qs_cons {st : Stmt} {rest : List Stmt} {f g : Env → SRes} (h1 : PS X st (tS G W B f)) (h2 : PSs X rest (tS G W B g)) : PSs X (st :: rest) (tS G W B (fSeq f g)) := by
  refine pssW (pss_cons h1 h2) fun D s H ⟨R, e, A, S, z⟩ => ⟨R, e, A, S, ?_⟩
  unfold fSeq at z
  cases hf : f e with
  | nx e1 =>
    rw [hf] at z
    exact fun s' H' A' S' k F => ⟨R, e1, A', S', z.sub k F⟩
  | rt o e' => rw [hf] at z; exact z
  | bk e' => rw [hf] at z; exact z
  | ct e' => rw [hf] at z; exact z
  | er x e' => rw [hf] at z; exact z
  | no => rw [hf] at z; exact z
theorem qs_one {st : Stmt} {f : Env → SRes} (h1 : PS X st (tS G W B f)) : PSs X [st] (tS G W B f) := pss_one h1
theorem qp_pass {pos : Pos} : PS X (.Pass pos) (tS G W B fNx) := psW ps_pass fun D s H ⟨R, e, A, S, z⟩ => z s H A S keepB.refl Fr.refl
theorem qp_break {pos : Pos} : PS X (.Break pos) (tS G W B SRes.bk) := psW ps_break fun D s H ⟨R, e, A, S, z⟩ => z s H A S keepB.refl Fr.refl
theorem qp_continue {pos : Pos} : PS X (.Continue pos) (tS G W B SRes.ct) := psW ps_continue fun D s H ⟨R, e, A, S, z⟩ => z s H A S keepB.refl Fr.refl
theorem qp_doc {x j pos pos'} : PS X (.Expr (.Constant (.str x) j pos) pos') (tS G W B fNx) := psW ps_doc fun D s H ⟨R, e, A, S, z⟩ => z s H A S keepB.refl Fr.refl

/-- from an expression on -/
def onX (f : Env → Res AO) (k : AO → Env → SRes) : Env → SRes := fun e => match f e with
  | .ok a e1 => k a e1
  | .er x e1 => .er x e1
  | .no => .no
theorem run_onX {f : Env → Res AO} {k : AO → Env → SRes} {D : Ends} {s : St} {H : Hp} {P : VK} (h : tS G W B (onX f k) D s H)
    (hk : ∀ R e1 a v H1 A1, SR G R H1 (some v :: s) (a.cell :: e1) A1 → a.fits s v → WS G W B R D s H1 A1 (k a e1) → P v H1) : tX G W f s H P := by
  obtain ⟨R, e, A, S, z⟩ := h
  refine ⟨R, e, A, S, ?_⟩
  unfold onX at z
  cases hf : f e with
  | no => rw [hf] at z; cases z
  | er x e' =>
    rw [hf] at z
    exact fun c d H' A' S' r F => z c d s H' A' S' r keepB.refl F
  | ok a e1 =>
    rw [hf] at z
    exact fun v H1 A1 S1 ft F1 => hk R e1 a v H1 A1 S1 ft (z.sub keepB.refl F1)

theorem SR.pass1 {R : Addr → Prop} {H : Hp} {s : St} {e e' : Env} {A : List Addr} {v : V} {m : Md} {a : AO} {o : O} {w : Option Nat} (S : SR G R H (some v :: s) (a.cell :: e) A) (ft : a.fits s v) (h : pass1 m a e = some (o, e', w)) :
    ∃ A', SR G R H (some v :: s) (some o :: e') A' ∧ ∀ a ∈ A', a ∈ A := by
  have h' : pass [m] [a] e = some ([o], e', [w]) := by unfold pass; rw [h]; rfl
  obtain ⟨A', S', m', _⟩ := SR.passes (vs := [v]) [] [] rfl S rfl (fun j b u hj hu => by
    cases j with
    | zero => simp at hj hu; subst hj; subst hu; exact ft
    | succ j => simp at hj) h'
  exact ⟨A', S', m'⟩
/-! ### e; return e -/
def fDrop (f : Env → Res AO) : Env → SRes := onX f fun _ e1 => .nx e1
theorem qp_expr {ex : Expr} {f : Env → Res AO} {pos : Pos} (he : PE X ex (tX G W f)) (hs : swapsWith ex none pos.line X.env = pure false := by rfl) : PS X (.Expr ex pos) (tS G W B (fDrop f)) :=
  psW (ps_expr he hs) fun D s H h => run_onX h fun R e1 a v H1 A1 S1 ft z => by
    obtain ⟨A2, S2, m⟩ := S1.tail
    exact z s H1 A2 S2 keepB.refl (Fr.less m)
/-- a slot of its own is handed out as it is -/
def fRet (B : List Nat) (f : Env → Res AO) : Env → SRes := onX f fun a e1 => match a with
  | .v o => .rt o e1
  | .s i => match slotO e1 i with
    | none => .no
    | some o => if i ∈ B then .rt (.im o.d) (e1.set i (some (.im o.d))) else .rt o (e1.set i none)
theorem qp_ret {ex : Expr} {f : Env → Res AO} {pos : Pos} (he : PE X ex (tX G W f)) : PS X (.Return (some ex) pos) (tS G W B (fRet B f)) := by
  refine psW (ps_ret he) fun D s H h => run_onX h fun R e1 a v H1 A1 S1 ft z => ?_
  cases a with
  | v o => exact z v s H1 A1 S1 keepB.refl Fr.refl
  | s i =>
    dsimp only at z
    cases h4 : slotO e1 i with
    | none => rw [h4] at z; cases z
    | some o =>
      rw [h4] at z
      dsimp only at z
      have g4 := slotO_eq h4
      obtain ⟨A2, S2, m⟩ := S1.tail
      by_cases hi : i ∈ B
      · rw [if_pos hi] at z
        obtain ⟨w, A3, h1, S3, m3⟩ := S2.read g4
        rw [show s[i]? = some (some v) from ft] at h1; cases h1
        exact z v s H1 A3 S3 keepB.refl (Fr.less fun a h => m a (m3 a h))
      · rw [if_neg hi] at z
        obtain ⟨w, A3, h1, S3, m3⟩ := S2.move g4
        rw [show s[i]? = some (some v) from ft] at h1; cases h1
        exact z v s H1 A3 S3 keepB.refl (Fr.less fun a h => m a (m3 a h))
theorem qp_retN {pos : Pos} : PS X (.Return none pos) (tS G W B (SRes.rt (.im .non))) :=
  psW ps_retN fun D s H ⟨R, e, A, S, z⟩ => z .non s H A ⟨.so (A := []) (.im .non) S.sl, S.nd, S.dj, S.ft⟩ keepB.refl Fr.refl

/-! ### targets -/
/-- K: how the slots may change -/
def TGk (G : Cl) (K : St → St → Prop) (g : TG) (t : O → Env → Option Env) : Prop :=
  ∀ (R : Addr → Prop) (s : St) (H : Hp) (A : List Addr) (v : V) (o : O) (e e' : Env) (Q : St → Hp → Prop), SR G R H (some v :: s) (some o :: e) A → t o e = some e' →
    (∀ s' H' A', SR G R H' s' e' A' → K s s' → Fr0 H A H' A' → Q s' H') → g v s H Q
def TGsk (G : Cl) (K : St → St → Prop) (g : TGs) (t : List D → Env → Option Env) : Prop :=
  ∀ (R : Addr → Prop) (s : St) (H : Hp) (A : List Addr) (vs : List V) (ds : List D) (e e' : Env) (Q : St → Hp → Prop), SR G R H s e A → ImA G H (fun a => a ∈ A ∨ R a) vs ds → t ds e = some e' →
    (∀ s' H' A', SR G R H' s' e' A' → K s s' → Fr0 H A H' A' → Q s' H') → g vs s H Q
abbrev TGok (G : Cl) (B : List Nat) := TGk G (keepB B)
abbrev TGsok (G : Cl) (B : List Nat) := TGsk G (keepB B)
theorem Fr.go {R : Addr → Prop} {H H' : Hp} {A A' : List Addr} (F : Fr0 H A H' A') : Go H (fun a => a ∈ A ∨ R a) H' (fun a => a ∈ A' ∨ R a) :=
  ⟨fun a o h n => F.st a o h (.inr fun m => n (.inl m)), fun a o h n z => by
    rcases z with z | z
    · rcases F.nw a z with y | y
      · exact n (.inl y)
      · rw [h] at y; cases y
    · exact n (.inr z)⟩
def sName (i : Nat) : O → Env → Option Env := fun o e => if i < e.length then some (e.set i (some o)) else none
theorem tgk_name {K : St → St → Prop} {i : Nat} (hK : ∀ s x, K s (s.set i (some x))) : TGk G K (gName i) (sName i) := by
  intro R s H A v o e e' Q S h k
  unfold sName at h
  split at h
  · rename_i hi
    cases h
    have hl : i < s.length := by have := S.len; simp at this; omega
    obtain ⟨A', S', m⟩ := S.store hl
    exact k _ _ _ S' (hK _ _) (Fr.less m)
  · cases h
theorem tg_name {i : Nat} (hB : i ∉ B) : TGok G B (gName i) (sName i) := tgk_name fun _ _ => keepB.set hB
def sNil : List D → Env → Option Env := fun ds e => match ds with | [] => some e | _ => none
def sCons (t : O → Env → Option Env) (u : List D → Env → Option Env) : List D → Env → Option Env := fun ds e => match ds with
  | [] => none
  | d :: ds => (t (.im d) e).bind fun e1 => u ds e1
theorem tgks_nil {K : St → St → Prop} (hr : ∀ s, K s s) : TGsk G K gNil sNil := by
  intro R s H A vs ds e e' Q S im h k
  cases im with
  | nil => simp [sNil] at h; subst h; exact ⟨rfl, k s H A S (hr s) Fr.refl⟩
  | cons _ _ => simp [sNil] at h
theorem tgks_cons {K : St → St → Prop} (hT : ∀ a b c, K a b → K b c → K a c) {g : TG} {gs : TGs} {t : O → Env → Option Env} {u : List D → Env → Option Env} (h1 : TGk G K g t) (h2 : TGsk G K gs u) : TGsk G K (gCons g gs) (sCons t u) := by
  intro R s H A vs ds e e' Q S im h k
  cases im with
  | nil => simp [sCons] at h
  | cons i0 im =>
    simp only [sCons] at h
    cases h3 : t (.im _) e with
    | none => rw [h3] at h; cases h
    | some e1 =>
      rw [h3] at h
      refine ⟨_, _, rfl, h1 R s H A _ _ e e1 _ ⟨.so (A := []) (.im i0) S.sl, S.nd, S.dj, S.ft⟩ h3 fun s' H' A' S' kb F => ?_⟩
      exact h2 R s' H' A' _ _ e1 e' Q S' (im.go F.go) h fun s2 H2 A2 S2 kb2 F2 => k s2 H2 A2 S2 (hT _ _ _ kb kb2) (F.trans F2)
theorem tgs_nil : TGsok G B gNil sNil := tgks_nil fun _ => keepB.refl
theorem tgs_cons {g : TG} {gs : TGs} {t : O → Env → Option Env} {u : List D → Env → Option Env} (h1 : TGok G B g t) (h2 : TGsok G B gs u) : TGsok G B (gCons g gs) (sCons t u) := tgks_cons (fun _ _ _ a b => a.trans b) h1 h2
def sTup (n : Nat) (u : List D → Env → Option Env) : O → Env → Option Env := fun o e => match o with
  | .im (.tup ds) => if ds.length = n then u ds e else none
  | _ => none
theorem tg_tup {KK : St → St → Prop} {n : Nat} {gs : TGs} {u : List D → Env → Option Env} (h2 : TGsk G KK gs u) {K : PySem.W.Frag} (hK : K = G.K := by rfl) : TGk G KK (gTup K n gs) (sTup n u) := by
  intro R s H A v o e e' Q S h k
  unfold sTup at h
  split at h
  · rename_i ds
    split at h
    · rename_i hn
      have sl := S.sl
      obtain ⟨A2, S2, m⟩ := S.tail
      cases sl with
      | so h0 r =>
        cases h0 with
        | im h0 =>
          cases h0 with
          | tup t0 im =>
            refine ⟨_, _, rfl, by rw [hK]; exact t0.sq, by rw [im.length, hn], ?_⟩
            exact h2 R s H A2 _ _ e e' Q S2 (im.go (Go.less fun a z => z.imp (m a) id)) h fun s' H' A' S' kb F => k s' H' A' S' kb (F.wide m)
    · cases h
  · cases h
/-- t = e -/
def fAsg (f : Env → Res AO) (t : O → Env → Option Env) : Env → SRes := onX f fun a e1 => match pass1 .el a e1 with
  | none => .no
  | some (o, e2, _) => match t o e2 with
    | none => .no
    | some e3 => .nx e3
theorem run_asg {f : Env → Res AO} {g : TG} {t : O → Env → Option Env} {D : Ends} {s : St} {H : Hp} (hg : TGok G B g t) (h : tS G W B (fAsg f t) D s H) : tAsg (tX G W f) g D s H := by
  refine run_onX h fun R e1 a v H1 A1 S1 ft z => ?_
  cases hp : PV.pass1 .el a e1 with
  | none => rw [hp] at z; cases z
  | some r =>
    obtain ⟨o, e2, w⟩ := r
    rw [hp] at z
    dsimp only at z
    cases ht : t o e2 with
    | none => rw [ht] at z; cases z
    | some e3 =>
      rw [ht] at z
      obtain ⟨A2, S2, m⟩ := SR.pass1 S1 ft hp
      exact hg R s H1 A2 v o e2 e3 _ S2 ht fun s' H' A' S' kb F => z s' H' A' S' kb (F.wide m)
theorem qp_asg {tg ex : Expr} {f : Env → Res AO} {g : TG} {t : O → Env → Option Env} {pos : Pos} (hg : TGok G B g t) (he : PE X ex (tX G W f)) (hp : PG X tg g) (hs : swapsWithSole [tg] ex pos.line X.env = pure false := by rfl) (hw : swappedStores [tg] ex X.env = pure none := by rfl)
    (h1 : (assignEach [tg] X.env).map (·.2) = [assign tg X.env] := by rfl) : PS X (.Assign [tg] ex pos) (tS G W B (fAsg f t)) :=
  psW (ps_asg he hp hs hw h1) fun D s H h => run_asg hg h
theorem qp_set (i : Nat) {x : Str} {ex : Expr} {f : Env → Res AO} {pos pos' : Pos} (hB : i ∉ B) (hN : X.N.Nodup) (hi : X.N[i]? = some x) (hx : Loc X.env.scope x) (he : PE X ex (tX G W f)) (hs : swapsWith ex (some (.Name x pos')) pos.line X.env = pure false := by rfl)
    (hf : X.fn x = true ∨ X.env.scope.names.lookup x = some .local := by first | exact .inl rfl | exact .inr rfl | assumption) : PS X (.Assign [.Name x pos'] ex pos) (tS G W B (fAsg f (sName i))) :=
  psW (ps_set hN hi hx he hs hf) fun D s H h => run_asg (tg_name hB) h
/-- if -/
def fIfS (t : Env → Res Bool) (f g : Env → SRes) : Env → SRes := fun e => match t e with
  | .ok b e1 => if b = true then f e1 else g e1
  | .er x e1 => .er x e1
  | .no => .no
theorem qp_if {c : Expr} {a b : List Stmt} {t : Env → Res Bool} {f g : Env → SRes} {pos : Pos} (hc : PT X c (tT G W t)) (ha : PSs X a (tS G W B f)) (hb : PSs X b (tS G W B g)) : PS X (.If c a b pos) (tS G W B (fIfS t f g)) := by
  refine psW (ps_if hc ha hb) fun D s H ⟨R, e, A, S, z⟩ => ⟨R, e, A, S, ?_⟩
  unfold fIfS at z
  cases ht : t e with
  | no => rw [ht] at z; cases z
  | er x e' => rw [ht] at z; exact fun c d H' A' S' r F => z c d s H' A' S' r keepB.refl F
  | ok k e1 =>
    rw [ht] at z
    intro H1 A1 S1 F1
    have z := z.sub keepB.refl F1
    dsimp only at z
    cases k with
    | true => rw [if_pos rfl] at z ⊢; exact ⟨R, e1, A1, S1, z⟩
    | false => rw [if_neg Bool.false_ne_true] at z ⊢; exact ⟨R, e1, A1, S1, z⟩

/-! ### loops -/
def runFor (t : O → Env → Option Env) (body : Env → SRes) : List D → Env → SRes
  | [], e => .nx e
  | d :: ds, e => match t (.im d) e with
    | none => .no
    | some e1 => match body e1 with
      | .nx e2 => runFor t body ds e2
      | .ct e2 => runFor t body ds e2
      | .bk e2 => .nx e2
      | r => r
/-- what holds between two turns -/
structure Turn1 (G : Cl) (W : WX) (B : List Nat) (R : Addr → Prop) (DD : Ends) (s0 : St) (H0 : Hp) (A0 : List Addr) (t : O → Env → Option Env) (body : Env → SRes) (ds : List D) (s : St) (H : Hp) (e : Env) (A : List Addr) : Prop where
  S : SR G R H s e A
  kb : keepB B s0 s
  F : Fr0 H0 A0 H A
  z : WS G W B R DD s0 H0 A0 (runFor t body ds e)
theorem Turn1.step {R : Addr → Prop} {DD : Ends} {s0 s : St} {H0 H : Hp} {A0 A : List Addr} {t : O → Env → Option Env} {body : Env → SRes} {d : D} {ds : List D} {e : Env} {g : TG} {v : V} (T : Turn1 G W B R DD s0 H0 A0 t body (d :: ds) s H e A) (hg : TGok G B g t)
    (im : Im G H (fun a => a ∈ A ∨ R a) v d) (P : St → Hp → Prop) (hP : ∀ s' H' e' A', Turn1 G W B R DD s0 H0 A0 t body ds s' H' e' A' → Fr0 H A H' A' → P s' H') :
    g v s H fun s2 H2 => tS G W B body { DD with nx := P, ct := P, bk := DD.nx } s2 H2 := by
  have z := T.z
  unfold runFor at z
  cases ht : t (.im d) e with
  | none => rw [ht] at z; cases z
  | some e1 =>
    rw [ht] at z
    dsimp only at z
    refine hg R s H A v _ e e1 _ ⟨.so (A := []) (.im im) T.S.sl, T.S.nd, T.S.dj, T.S.ft⟩ ht fun s2 H2 A2 S2 kb2 F2 => ⟨R, e1, A2, S2, ?_⟩
    have kb := T.kb.trans kb2
    have F := T.F.trans F2
    cases hb : body e1 with
    | nx e2 =>
      rw [hb] at z
      exact fun s' H' A' S' k f => hP s' H' e2 A' ⟨S', kb.trans k, F.trans f, z⟩ (F2.trans f)
    | ct e2 =>
      rw [hb] at z
      exact fun s' H' A' S' k f => hP s' H' e2 A' ⟨S', kb.trans k, F.trans f, z⟩ (F2.trans f)
    | bk e2 => rw [hb] at z; exact fun s' H' A' S' k f => z s' H' A' S' (kb.trans k) (F.trans f)
    | rt o e2 => rw [hb] at z; exact fun v s' H' A' S' k f => z v s' H' A' S' (kb.trans k) (F.trans f)
    | er x e2 => rw [hb] at z; exact fun c d s' H' A' S' r k f => z c d s' H' A' S' r (kb.trans k) (F.trans f)
    | no => rw [hb] at z; cases z
def itL : O → Option (List D)
  | .im (.lst ds) => some ds
  | _ => none
def itT : O → Option (List D)
  | .im (.tup ds) => some ds
  | _ => none
def fFor (sq : O → Option (List D)) (f : Env → Res AO) (t : O → Env → Option Env) (body : Env → SRes) : Env → SRes := onX f fun a e1 => match pass1 .im a e1 with
  | none => .no
  | some (o, e2, _) => match sq o with
    | none => .no
    | some ds => runFor t body ds e2
theorem qp_for {tg iter : Expr} {st : List Stmt} {f : Env → Res AO} {g : TG} {t : O → Env → Option Env} {body : Env → SRes} {pos : Pos} (hp : PassesOwn (model X.prog X.w) X.A X.env X.xe) (hc : X.calm = true) (hg : TGok G B g t) (hi : PE X iter (tX G W f)) (pg : PG X tg g) (hb : PSs X st (tS G W B body))
    (hs : ∀ x, foldedSetIterable iter X.env x = pure x := by intro _; rfl) (hK : X.K = G.K := by rfl) : PS X (.For tg iter st [] pos) (tS G W B (fFor itL f t body)) := by
  refine psW (ps_for hp hc (pi_list hi) pg hb hs) fun D s H h => run_onX h fun R e1 a v H1 A1 S1 ft z => ?_
  cases hq : PV.pass1 .im a e1 with
  | none => rw [hq] at z; cases z
  | some r =>
    obtain ⟨o, e2, w⟩ := r
    rw [hq] at z
    dsimp only at z
    cases hd : itL o with
    | none => rw [hd] at z; cases z
    | some ds =>
      rw [hd] at z
      dsimp only at z
      obtain ⟨A2, S2, m⟩ := SR.pass1 S1 ft hq
      obtain rfl : o = .im (.lst ds) := by
        unfold itL at hd
        split at hd
        · cases hd; rfl
        · cases hd
      have sl := S2.sl
      obtain ⟨A3, S3, m3⟩ := S2.tail
      cases sl with
      | so h0 _ =>
        cases h0 with
        | im h0 =>
          cases h0 with
          | @lst a vs _ l0 im =>
            have l0 := l0.go (Go.less (L' := fun a => a ∈ A3 ∨ R a) fun a z => z.imp (m3 a) id)
            have im := im.go (Go.less (L' := fun a => a ∈ A3 ∨ R a) fun a z => z.imp (m3 a) id)
            refine ⟨a, rfl, ⟨vs, by rw [hK]; exact l0.sq⟩, ?_⟩
            refine for_list (xs := vs) (fun i s' H' => ∃ e' A', Turn1 G W B R D s H1 A3 t body (ds.drop i) s' H' e' A' ∧ LsAt G H' (fun a => a ∈ A' ∨ R a) a vs ∧ ImA G H' (fun a => a ∈ A' ∨ R a) vs ds) ⟨e2, A3, ⟨S3, keepB.refl, Fr.refl, z.sub keepB.refl (Fr.less fun a h => m a (m3 a h))⟩, l0, im⟩ ?_ ?_ ?_
            · rintro i s' H' _ ⟨e', A', T, l', im'⟩
              rw [hK]; exact l'.sq
            · rintro i x s' H' hx ⟨e', A', T, l', im'⟩
              obtain ⟨d, hd, ix⟩ := im'.getV hx
              have hdr : ds.drop i = d :: ds.drop (i + 1) := by
                rw [List.drop_eq_getElem_cons (lt_of_get hd)]
                congr 1
                rw [List.getElem?_eq_getElem (lt_of_get hd)] at hd
                exact Option.some.inj hd
              rw [hdr] at T
              exact T.step hg ix _ fun s2 H2 e2 A2 T2 F2 => ⟨e2, A2, T2, l'.go F2.go, im'.go F2.go⟩
            · rintro s' H' ⟨e', A', T, l', im'⟩
              have hz := T.z
              rw [im.length, List.drop_length] at hz
              exact hz s' H' A' T.S T.kb T.F
theorem qp_forT {tg iter : Expr} {st : List Stmt} {f : Env → Res AO} {g : TG} {t : O → Env → Option Env} {body : Env → SRes} {pos : Pos} (hp : PassesOwn (model X.prog X.w) X.A X.env X.xe) (hc : X.calm = true) (hg : TGok G B g t) (hi : PE X iter (tX G W f)) (pg : PG X tg g) (hb : PSs X st (tS G W B body))
    (hs : ∀ x, foldedSetIterable iter X.env x = pure x := by intro _; rfl) (hK : X.K = G.K := by rfl) : PS X (.For tg iter st [] pos) (tS G W B (fFor itT f t body)) := by
  refine psW (ps_for hp hc (pi_tup hi) pg hb hs) fun D s H h => run_onX h fun R e1 a v H1 A1 S1 ft z => ?_
  cases hq : PV.pass1 .im a e1 with
  | none => rw [hq] at z; cases z
  | some r =>
    obtain ⟨o, e2, w⟩ := r
    rw [hq] at z
    dsimp only at z
    cases hd : itT o with
    | none => rw [hd] at z; cases z
    | some ds =>
      rw [hd] at z
      dsimp only at z
      obtain ⟨A2, S2, m⟩ := SR.pass1 S1 ft hq
      obtain rfl : o = .im (.tup ds) := by
        unfold itT at hd
        split at hd
        · cases hd; rfl
        · cases hd
      have sl := S2.sl
      obtain ⟨A3, S3, m3⟩ := S2.tail
      cases sl with
      | so h0 _ =>
        cases h0 with
        | im h0 =>
          cases h0 with
          | @tup a vs _ l0 im =>
            have l0 := l0.go (Go.less (L' := fun a => a ∈ A3 ∨ R a) fun a z => z.imp (m3 a) id)
            have im := im.go (Go.less (L' := fun a => a ∈ A3 ∨ R a) fun a z => z.imp (m3 a) id)
            refine ⟨a, rfl, ⟨vs, by rw [hK]; exact l0.sq⟩, ?_⟩
            refine for_tup (xs := vs) (fun i s' H' => ∃ e' A', Turn1 G W B R D s H1 A3 t body (ds.drop i) s' H' e' A' ∧ TpAt G H' (fun a => a ∈ A' ∨ R a) a vs ∧ ImA G H' (fun a => a ∈ A' ∨ R a) vs ds) ⟨e2, A3, ⟨S3, keepB.refl, Fr.refl, z.sub keepB.refl (Fr.less fun a h => m a (m3 a h))⟩, l0, im⟩ ?_ ?_ ?_
            · rintro i s' H' _ ⟨e', A', T, l', im'⟩
              rw [hK]; exact l'.sq
            · rintro i x s' H' hx ⟨e', A', T, l', im'⟩
              obtain ⟨d, hd, ix⟩ := im'.getV hx
              have hdr : ds.drop i = d :: ds.drop (i + 1) := by
                rw [List.drop_eq_getElem_cons (lt_of_get hd)]
                congr 1
                rw [List.getElem?_eq_getElem (lt_of_get hd)] at hd
                exact Option.some.inj hd
              rw [hdr] at T
              exact T.step hg ix _ fun s2 H2 e2 A2 T2 F2 => ⟨e2, A2, T2, l'.go F2.go, im'.go F2.go⟩
            · rintro s' H' ⟨e', A', T, l', im'⟩
              have hz := T.z
              rw [im.length, List.drop_length] at hz
              exact hz s' H' A' T.S T.kb T.F
end
end PV

set_option Elab.async false
set_option linter.all false
set_option maxRecDepth 100000
set_option maxHeartbeats 4000000
/-! PVh: ranges, while, lists that are written. -/
namespace PV
open PySem L2

section
variable {X : Cx} {W : WX} {G : Cl} {B : List Nat}
/-! ### range -/
def rngD (lo : Int) (n : Nat) : List D := (List.range n).map fun (i : Nat) => D.int (lo + (i : Int))
theorem rngD_drop {lo : Int} {n i : Nat} (h : i < n) : (rngD lo n).drop i = .int (lo + i) :: (rngD lo n).drop (i + 1) := by
  have hl : i < (rngD lo n).length := by simp [rngD, h]
  rw [List.drop_eq_getElem_cons hl]
  congr 1
  simp [rngD]
def in62 (i : Int) : Bool := decide (-(2 ^ 62) ≤ i) && decide (i < 2 ^ 62)
theorem in62_ok {i : Int} (h : in62 i = true) : -(2 ^ 62) ≤ i ∧ i < 2 ^ 62 := by
  unfold in62 at h
  simp only [Bool.and_eq_true, decide_eq_true_eq] at h
  exact h
def rng1 : List O → Option (Int × Nat)
  | [.im (.int j)] => if in62 j then some (0, j.toNat) else none
  | _ => none
def rng2 : List O → Option (Int × Nat)
  | [.im (.int i), .im (.int j)] => if in62 i && in62 j then some (i, (j - i).toNat) else none
  | _ => none
theorem rng1_ok {os : List O} {p : Int × Nat} (h : rng1 os = some p) : ∃ j, os = [.im (.int j)] ∧ in62 j = true ∧ p = (0, j.toNat) := by
  unfold rng1 at h
  split at h
  · rename_i j
    split at h
    · rename_i hj; cases h; exact ⟨j, rfl, hj, rfl⟩
    · cases h
  · cases h
theorem rng2_ok {os : List O} {p : Int × Nat} (h : rng2 os = some p) : ∃ i j, os = [.im (.int i), .im (.int j)] ∧ in62 i = true ∧ in62 j = true ∧ p = (i, (j - i).toNat) := by
  unfold rng2 at h
  split at h
  · rename_i i j
    split at h
    · rename_i hj
      cases h
      rw [Bool.and_eq_true] at hj
      exact ⟨i, j, rfl, hj.1, hj.2, rfl⟩
    · cases h
  · cases h
def fForR (rg : List O → Option (Int × Nat)) (g : Env → Res (List AO)) (t : O → Env → Option Env) (body : Env → SRes) : Env → SRes := fun e => match g e with
  | .er x e1 => .er x e1
  | .no => .no
  | .ok as e1 => match gets e1 as with
    | none => .no
    | some os => match rg os with
      | none => .no
      | some (lo, n) => runFor t body (rngD lo n) e1
/-- the loop over a range, from its turns on -/
theorem run_rng {R : Addr → Prop} {DD : Ends} {s : St} {H : Hp} {A : List Addr} {e : Env} {g : TG} {t : O → Env → Option Env} {body : Env → SRes} {lo : Int} {n : Nat} (S : SR G R H s e A) (hg : TGok G B g t) (z : WS G W B R DD s H A (runFor t body (rngD lo n) e)) :
    ∃ W' : Nat → Nat → St → Hp → Prop, (∃ m, W' 0 m s H) ∧ ∀ i m σ H, W' i m σ H →
      ((Itr lo n).stop i H ∧ DD.nx σ H) ∨ ((Itr lo n).go i H ∧ ∃ N : St → Hp → Prop, (∀ σ' H', N σ' H' → ∃ m', m' < m ∧ W' (i + 1) m' σ' H') ∧ ∀ x H', (Itr lo n).yld i H x H' → g x σ H' fun σ2 H2 => tS G W B body { DD with nx := N, ct := N, bk := DD.nx } σ2 H2) := by
  refine for_range (fun i s' H' => ∃ e' A', Turn1 G W B R DD s H A t body ((rngD lo n).drop i) s' H' e' A') ⟨e, A, ⟨S, keepB.refl, Fr.refl, z⟩⟩ ?_ ?_
  · rintro i s' H' hi ⟨e', A', T⟩
    rw [rngD_drop hi] at T
    exact T.step hg (.int _) _ fun s2 H2 e2 A2 T2 F2 => ⟨e2, A2, T2⟩
  · rintro s' H' ⟨e', A', T⟩
    have hz := T.z
    have hn : (rngD lo n).length = n := by simp [rngD]
    have hd : (rngD lo n).drop n = [] := by
      have := List.drop_length (l := rngD lo n)
      rw [hn] at this
      exact this
    rw [hd] at hz
    exact hz s' H' A' T.S T.kb T.F
theorem run_args {g : Env → Res (List AO)} {k : List AO → Env → SRes} {DD : Ends} {s : St} {H : Hp} {P : List V → Hp → Prop}
    (h : tS G W B (fun e => match g e with | .er x e1 => .er x e1 | .no => .no | .ok as e1 => k as e1) DD s H)
    (hk : ∀ R e1 as vs H1 A1, SR G R H1 (vs.map some ++ s) (as.map AO.cell ++ e1) A1 → vs.length = as.length → (∀ (j : Nat) (a : AO) (v : V), as[j]? = some a → vs[j]? = some v → a.fits s v) → WS G W B R DD s H1 A1 (k as e1) → P vs H1) : tL G W g s H P := by
  obtain ⟨R, e, A, S, z⟩ := h
  refine ⟨R, e, A, S, ?_⟩
  dsimp only at z
  cases hg : g e with
  | no => rw [hg] at z; cases z
  | er x e' => rw [hg] at z; exact fun c d H' A' S' r F => z c d s H' A' S' r keepB.refl F
  | ok as e1 =>
    rw [hg] at z
    exact fun vs H1 A1 S1 hl ft F1 => hk R e1 as vs H1 A1 S1 hl ft (z.sub keepB.refl F1)
theorem qp_range1 {tg a : Expr} {st : List Stmt} {g : Env → Res (List AO)} {gt : TG} {t : O → Env → Option Env} {body : Env → SRes} {p pos pos' : Pos} (hp : PassesOwn (model X.prog X.w) X.A X.env X.xe) (hc : X.calm = true) (hg : TGok G B gt t) (hgl : Gl X "range") (hm : X.mg "range" = none)
    (ha : PA X [a] (tL G W g)) (pg : PG X tg gt) (hb : PSs X st (tS G W B body)) (hs : starEach [a] X.env = [(false, eval a X.env)] := by rfl) : PS X (.For tg (.Call (.Name "range" p) [a] [] pos') st [] pos) (tS G W B (fForR rng1 g t body)) := by
  refine psW (ps_for hp hc (pi_range1 hgl hm ha hs) pg hb) fun DD s H h => run_args h fun R e1 as vs H1 A1 S1 hl ft z => ?_
  cases hq : gets e1 as with
  | none => rw [hq] at z; cases z
  | some os =>
    rw [hq] at z
    dsimp only at z
    cases hr : rng1 os with
    | none => rw [hr] at z; cases z
    | some q =>
      obtain ⟨lo, n⟩ := q
      rw [hr] at z
      dsimp only at z
      obtain ⟨j, rfl, hj, e2⟩ := rng1_ok hr
      cases e2
      obtain ⟨C, ow⟩ := gets_ow (R := R) S1.sl hl ft hq
      obtain ⟨A2, S2, m⟩ := SR.drop (by simpa using hl) S1
      cases ow with
      | cons h0 hr =>
        cases hr
        cases h0 with
        | im h0 =>
          cases h0
          exact ⟨j, rfl, (in62_ok hj).1, (in62_ok hj).2, run_rng S2 hg (z.sub keepB.refl (Fr.less m))⟩
theorem qp_range2 {tg a b : Expr} {st : List Stmt} {g : Env → Res (List AO)} {gt : TG} {t : O → Env → Option Env} {body : Env → SRes} {p pos pos' : Pos} (hp : PassesOwn (model X.prog X.w) X.A X.env X.xe) (hc : X.calm = true) (hg : TGok G B gt t) (hgl : Gl X "range") (hm : X.mg "range" = none)
    (ha : PA X [a, b] (tL G W g)) (pg : PG X tg gt) (hb : PSs X st (tS G W B body)) (hs : starEach [a, b] X.env = [(false, eval a X.env), (false, eval b X.env)] := by rfl) (hs2 : starEach [b] X.env = [(false, eval b X.env)] := by rfl) : PS X (.For tg (.Call (.Name "range" p) [a, b] [] pos') st [] pos) (tS G W B (fForR rng2 g t body)) := by
  refine psW (ps_for hp hc (pi_range2 hgl hm ha hs hs2) pg hb) fun DD s H h => run_args h fun R e1 as vs H1 A1 S1 hl ft z => ?_
  cases hq : gets e1 as with
  | none => rw [hq] at z; cases z
  | some os =>
    rw [hq] at z
    dsimp only at z
    cases hr : rng2 os with
    | none => rw [hr] at z; cases z
    | some q =>
      obtain ⟨lo, n⟩ := q
      rw [hr] at z
      dsimp only at z
      obtain ⟨i, j, rfl, hi, hj, e2⟩ := rng2_ok hr
      cases e2
      obtain ⟨C, ow⟩ := gets_ow (R := R) S1.sl hl ft hq
      obtain ⟨A2, S2, m⟩ := SR.drop (by simpa using hl) S1
      cases ow with
      | cons h0 hr =>
        cases hr with
        | cons h1 hr =>
          cases hr
          cases h0 with
          | im h0 =>
            cases h0
            cases h1 with
            | im h1 =>
              cases h1
              exact ⟨_, _, rfl, ⟨(in62_ok hi).1, (in62_ok hi).2, (in62_ok hj).1, (in62_ok hj).2⟩, run_rng S2 hg (z.sub keepB.refl (Fr.less m))⟩

/-! ### while -/
def runW (t : Env → Res Bool) (body : Env → SRes) : Nat → Env → SRes
  | 0, _ => .no
  | n + 1, e => match t e with
    | .er x e1 => .er x e1
    | .no => .no
    | .ok b e1 => if b = true then match body e1 with
        | .nx e2 => runW t body n e2
        | .ct e2 => runW t body n e2
        | .bk e2 => .nx e2
        | r => r
      else .nx e1
theorem qp_while (n : Nat) {c : Expr} {st : List Stmt} {t : Env → Res Bool} {body : Env → SRes} {pos : Pos} (hp : PassesOwn (model X.prog X.w) X.A X.env X.xe) (hc : PT X c (tT G W t)) (hb : PSs X st (tS G W B body)) : PS X (.While c st [] pos) (tS G W B (runW t body n)) := by
  refine psW (ps_while hp hc hb) fun DD s H ⟨R, e, A, S, z⟩ => ?_
  refine ⟨fun m s' H' => ∃ e' A', SR G R H' s' e' A' ∧ keepB B s s' ∧ Fr0 H A H' A' ∧ WS G W B R DD s H A (runW t body m e'), ⟨n, e, A, S, keepB.refl, Fr.refl, z⟩, ?_⟩
  rintro m s1 H1 ⟨e1, A1, S1, kb1, F1, z1⟩
  cases m with
  | zero => exact False.elim z1
  | succ m =>
    refine ⟨R, e1, A1, S1, ?_⟩
    unfold runW at z1
    cases ht : t e1 with
    | no => rw [ht] at z1; cases z1
    | er x e' => rw [ht] at z1; exact fun c d H' A' S' r F => z1 c d s1 H' A' S' r kb1 (F1.trans F)
    | ok b e2 =>
      rw [ht] at z1
      dsimp only at z1
      intro H2 A2 S2 F2
      cases b with
      | false =>
        rw [if_neg Bool.false_ne_true] at z1 ⊢
        exact z1 s1 H2 A2 S2 kb1 (F1.trans F2)
      | true =>
        rw [if_pos rfl] at z1 ⊢
        refine ⟨fun s' H' => ∃ e' A', SR G R H' s' e' A' ∧ keepB B s s' ∧ Fr0 H A H' A' ∧ WS G W B R DD s H A (runW t body m e'), fun s' H' q => ⟨m, Nat.lt_succ_self _, q⟩, R, e2, A2, S2, ?_⟩
        have F := F1.trans F2
        cases hb : body e2 with
        | nx e3 => rw [hb] at z1; exact fun s' H' A' S' k f => ⟨e3, A', S', kb1.trans k, F.trans f, z1⟩
        | ct e3 => rw [hb] at z1; exact fun s' H' A' S' k f => ⟨e3, A', S', kb1.trans k, F.trans f, z1⟩
        | bk e3 => rw [hb] at z1; exact fun s' H' A' S' k f => z1 s' H' A' S' (kb1.trans k) (F.trans f)
        | rt o e3 => rw [hb] at z1; exact fun v s' H' A' S' k f => z1 v s' H' A' S' (kb1.trans k) (F.trans f)
        | er x e3 => rw [hb] at z1; exact fun c d s' H' A' S' r k f => z1 c d s' H' A' S' r (kb1.trans k) (F.trans f)
        | no => rw [hb] at z1; cases z1

/-! ### lists that are written -/
/-- pairs of a value and its thing -/
inductive OwP (G : Cl) (H : Hp) (L : Addr → Prop) : List (V × O) → List Addr → Prop
  | nil : OwP G H L [] []
  | cons {v : V} {o : O} {l : List (V × O)} {A C : List Addr} : Ow G H L v o A → OwP G H L l C → OwP G H L ((v, o) :: l) (A ++ C)
theorem OwA.toP {H : Hp} {L : Addr → Prop} : ∀ {vs : List V} {os : List O} {A : List Addr}, OwA G H L vs os A → OwP G H L (vs.zip os) A
  | _, _, _, .nil => .nil
  | _, _, _, .cons h r => .cons h (OwA.toP r)
theorem OwP.toA {H : Hp} {L : Addr → Prop} : ∀ {vs : List V} {os : List O} {A : List Addr}, vs.length = os.length → OwP G H L (vs.zip os) A → OwA G H L vs os A
  | [], [], _, _, .nil => .nil
  | [], _ :: _, _, h, _ => by simp at h
  | _ :: _, [], _, h, _ => by simp at h
  | v :: vs, o :: os, _, h, .cons h0 r => .cons h0 (OwP.toA (by simpa using h) r)
theorem OwP.app {H : Hp} {L : Addr → Prop} {m : List (V × O)} {C : List Addr} : ∀ {l : List (V × O)} {A : List Addr}, OwP G H L l A → OwP G H L m C → OwP G H L (l ++ m) (A ++ C)
  | _, _, .nil, r => r
  | _, _, .cons h t, r => by rw [List.append_assoc]; exact .cons h (OwP.app t r)
theorem OwP.split {H : Hp} {L : Addr → Prop} {m : List (V × O)} : ∀ {l : List (V × O)} {A : List Addr}, OwP G H L (l ++ m) A → ∃ A1 A2, A = A1 ++ A2 ∧ OwP G H L l A1 ∧ OwP G H L m A2
  | [], A, r => ⟨[], A, rfl, .nil, r⟩
  | _ :: l, _, .cons h r => by
    obtain ⟨A1, A2, rfl, r1, r2⟩ := OwP.split (l := l) r
    exact ⟨_ ++ A1, A2, by rw [List.append_assoc], .cons h r1, r2⟩
theorem OwP.perm {H : Hp} {L : Addr → Prop} {l l' : List (V × O)} (p : l.Perm l') : ∀ {A : List Addr}, OwP G H L l A → ∃ A', OwP G H L l' A' ∧ A.Perm A' := by
  induction p with
  | nil => intro A r; exact ⟨A, r, .refl _⟩
  | cons x _ ih =>
    intro A r
    cases r with
    | cons h r =>
      obtain ⟨A', r', p'⟩ := ih r
      exact ⟨_, .cons h r', p'.append_left _⟩
  | swap x y l =>
    intro A r
    cases r with
    | cons h r => cases r with
      | cons h2 r => exact ⟨_, .cons h2 (.cons h r), by rw [← List.append_assoc, ← List.append_assoc]; exact List.perm_append_comm.append_right _⟩
  | trans _ _ ih1 ih2 =>
    intro A r
    obtain ⟨A1, r1, p1⟩ := ih1 r
    obtain ⟨A2, r2, p2⟩ := ih2 r1
    exact ⟨A2, r2, p1.trans p2⟩
theorem OwP.sub {H : Hp} {L : Addr → Prop} {l l' : List (V × O)} (p : l'.Sublist l) : ∀ {A : List Addr}, OwP G H L l A → ∃ A', OwP G H L l' A' ∧ A'.Sublist A := by
  induction p with
  | slnil => intro A r; exact ⟨A, r, List.Sublist.refl _⟩
  | cons x _ ih =>
    intro A r
    cases r with
    | cons h r =>
      obtain ⟨A', r', p'⟩ := ih r
      exact ⟨A', r', p'.trans (List.sublist_append_right _ _)⟩
  | cons_cons x _ ih =>
    intro A r
    cases r with
    | cons h r =>
      obtain ⟨A', r', p'⟩ := ih r
      exact ⟨_, .cons h r', p'.append_left _⟩
theorem OwP.im_of {H : Hp} {L : Addr → Prop} : ∀ {vs : List V} {ds : List D}, ImA G H L vs ds → OwP G H L (vs.zip (ds.map O.im)) []
  | _, _, .nil => .nil
  | _, _, .cons h r => .cons (A := []) (.im h) (OwP.im_of r)
theorem OwP.go {H H' : Hp} {L L' : Addr → Prop} (g : Go H L H' L') : ∀ {l : List (V × O)} {A : List Addr}, OwP G H L l A → (∀ a ∈ A, H' a = H a) → OwP G H' L' l A
  | _, _, .nil, _ => .nil
  | _, _, .cons h r, k => .cons (Ow.go g h fun a m => k a (List.mem_append_left _ m)) (OwP.go g r fun a m => k a (List.mem_append_right _ m))
theorem SlA.toP {H : Hp} {L : Addr → Prop} : ∀ {vs : List V} {os : List O} {A : List Addr}, SlA G H L (vs.map some) (os.map some) A → OwP G H L (vs.zip os) A ∧ vs.length = os.length
  | [], [], _, .nil => ⟨.nil, rfl⟩
  | [], _ :: _, _, r => by cases r
  | _ :: _, [], _, r => by cases r
  | v :: vs, o :: os, _, .so h r => by
    obtain ⟨r', hl⟩ := SlA.toP r
    exact ⟨.cons h r', by simp [hl]⟩
theorem OwP.toS {H : Hp} {L : Addr → Prop} : ∀ {vs : List V} {os : List O} {A : List Addr}, vs.length = os.length → OwP G H L (vs.zip os) A → SlA G H L (vs.map some) (os.map some) A
  | [], [], _, _, .nil => .nil
  | [], _ :: _, _, h, _ => by simp at h
  | _ :: _, [], _, h, _ => by simp at h
  | v :: vs, o :: os, _, h, .cons h0 r => .so h0 (OwP.toS (by simpa using h) r)
/-- THE WRITE: the list in slot i is made anew of what it held, of what stands on top, and of read-only things; what stands on top changes too -/
theorem SR.writeG {R : Addr → Prop} {H : Hp} {s : St} {e : Env} {A : List Addr} {i : Nat} {os os' tos tos' : List O} {ts ts' xs' : List V} {l : List (V × O)} {exv : List V} {exd : List D} {p : Addr} {xs : List V} (S : SR G R H (ts.map some ++ s) (tos.map some ++ e) A) {o0 o1 : O} {u' : HO} (hi : e[i]? = some (some o0)) (hv : s[i]? = some (some (.ref p))) (hdec : ∀ L A2, Ow G H L (.ref p) o0 A2 → ∃ A0, A2 = p :: A0 ∧ OwA G H L xs os A0) (hnew : ∀ L O', OwA G (upd H p u') L xs' os' O' → Ow G (upd H p u') L (.ref p) o1 (p :: O'))
    (hl : ts.length = tos.length) (hex : ImA G H (fun a => a ∈ A ∨ R a) exv exd) (hperm : (ts.zip tos ++ (xs.zip os ++ exv.zip (exd.map O.im))).Perm l) (hsub : (ts'.zip tos' ++ xs'.zip os').Sublist l) (h1 : ts'.length = tos'.length) (h2 : xs'.length = os'.length) :
    ∃ A', SR G R (upd H p u') (ts'.map some ++ s) (tos'.map some ++ e.set i (some o1)) A' ∧ Fr0 H A (upd H p u') A' := by
  obtain ⟨T, E, rfl, rT, rE⟩ := SlA.split (by simpa using hl) S.sl
  obtain ⟨v, A1, A2, A3, q1, rfl, q3, q4⟩ := SlA.at rE hi
  rw [hv] at q1; cases q1
  obtain ⟨A0, eA0, rO⟩ := hdec _ _ q3
  subst eA0
  · skip
    obtain ⟨nT, nE, nTE⟩ := List.nodup_append.mp S.nd
    obtain ⟨n13, n2, n2_13⟩ := nodup3 nE
    obtain ⟨np, n0⟩ := List.nodup_cons.mp n2
    have pA : p ∈ T ++ (A1 ++ (p :: A0 ++ A3)) := List.mem_append_right _ (List.mem_append_right _ (List.mem_append_left _ List.mem_cons_self))
    have pR : ¬ R p := S.dj p pA
    have pT : p ∉ T := fun m => nTE p m p (List.mem_append_right _ (List.mem_append_left _ List.mem_cons_self)) rfl
    have p13 : p ∉ A1 ++ A3 := n2_13 p List.mem_cons_self
    -- the new things
    obtain ⟨C, rC, pC⟩ := OwP.perm hperm ((SlA.toP rT).1.app (rO.toP.app (OwP.im_of hex)))
    rw [List.append_nil] at pC
    obtain ⟨C', rC', sC⟩ := OwP.sub hsub rC
    obtain ⟨T', O', rfl, rT', rO'⟩ := OwP.split rC'
    have memC : ∀ a ∈ T' ++ O', a ∈ T ++ A0 := fun a m => pC.mem_iff.mpr (sC.subset m)
    have ndTA : (T ++ A0).Nodup := List.nodup_append.mpr ⟨nT, n0, fun a m b m' => nTE a m b (List.mem_append_right _ (List.mem_append_left _ (List.mem_cons_of_mem _ m')))⟩
    have ndC : (T' ++ O').Nodup := (pC.nodup_iff.mp ndTA).sublist sC
    obtain ⟨ndT', ndO', ndTO⟩ := List.nodup_append.mp ndC
    have inA : ∀ a ∈ T' ++ O', a ∈ T ++ (A1 ++ (p :: A0 ++ A3)) := fun a m => by
      rcases List.mem_append.mp (memC a m) with m | m
      · exact List.mem_append_left _ m
      · exact List.mem_append_right _ (List.mem_append_right _ (List.mem_append_left _ (List.mem_cons_of_mem _ m)))
    have pC' : p ∉ T' ++ O' := fun m => by
      rcases List.mem_append.mp (memC p m) with m | m
      · exact pT m
      · exact np m
    have dis : ∀ a ∈ T' ++ O', a ∉ A1 ++ A3 := fun a m z => by
      rcases List.mem_append.mp (memC a m) with m | m
      · exact nTE a m a (mem3 z) rfl
      · exact n2_13 a (List.mem_cons_of_mem _ m) z
    -- the new sets
    have inN : ∀ a ∈ T' ++ (A1 ++ ((p :: O') ++ A3)), a ∈ T ++ (A1 ++ (p :: A0 ++ A3)) := fun a m => by
      rcases List.mem_append.mp m with m | m
      · exact inA a (List.mem_append_left _ m)
      · rcases List.mem_append.mp m with m | m
        · exact List.mem_append_right _ (List.mem_append_left _ m)
        · rcases List.mem_append.mp m with m | m
          · rcases List.mem_cons.mp m with z | m
            · rw [z]; exact pA
            · exact inA a (List.mem_append_right _ m)
          · exact List.mem_append_right _ (List.mem_append_right _ (List.mem_append_right _ m))
    have g : Go H (fun a => a ∈ T ++ (A1 ++ (p :: A0 ++ A3)) ∨ R a) (upd H p u') (fun a => a ∈ T' ++ (A1 ++ ((p :: O') ++ A3)) ∨ R a) :=
      ⟨fun a o h n => by rw [upd_ne fun z => n (.inl (by rw [z]; exact pA))]; exact h, fun a o h n z => n (z.imp (inN a) id)⟩
    have keepP : ∀ C : List Addr, p ∉ C → ∀ a ∈ C, upd H p u' a = H a := fun C hC a m => upd_ne fun z => hC (z ▸ m)
    have slE := (q4 (some (.ref p)) none [] (.no .nil))
    rw [set_self hv] at slE
    have slE2 := slE.go g (keepP (A1 ++ ([] ++ A3)) p13)
    have new : Ow G (upd H p u') (fun a => a ∈ T' ++ (A1 ++ ((p :: O') ++ A3)) ∨ R a) (.ref p) o1 (p :: O') := hnew _ _ (OwP.toA h2 (rO'.go g (keepP O' fun m => pC' (List.mem_append_right _ m))))
    -- slot i
    have ie : i < e.length := lt_of_get hi
    obtain ⟨w, B1, B2, B3, _, eB, _, qB⟩ : ∃ (w : Unit) (B1 B2 B3 : List Addr), True ∧ A1 ++ ([] ++ A3) = B1 ++ (B2 ++ B3) ∧ True ∧ ∀ (w : Option V) (c : Option O) (C : List Addr), SlA G (upd H p u') (fun a => a ∈ T' ++ (A1 ++ ((p :: O') ++ A3)) ∨ R a) [w] [c] C → SlA G (upd H p u') (fun a => a ∈ T' ++ (A1 ++ ((p :: O') ++ A3)) ∨ R a) (s.set i w) ((e.set i none).set i c) (B1 ++ (C ++ B3)) := by
      obtain ⟨B1, B2, B3, eB, qB⟩ := SlA.put slE2 (i := i) (lt_of_get hv)
      exact ⟨(), B1, B2, B3, trivial, eB, trivial, qB⟩
    have sl3 := qB (some (.ref p)) (some o1) (p :: O' ++ []) (.so new .nil)
    rw [set_self hv, List.set_set, List.append_nil] at sl3
    have sub13 : ∀ a ∈ B1 ++ B3, a ∈ A1 ++ A3 := fun a m => by
      have q : a ∈ B1 ++ (B2 ++ B3) := mem3 m
      rw [← eB] at q
      simpa using q
    have nd13 : (B1 ++ B3).Nodup := by
      have q : (B1 ++ (B2 ++ B3)).Nodup := by rw [← eB]; simpa using n13
      exact (nodup3 q).1
    have inM : ∀ a ∈ T' ++ (B1 ++ ((p :: O') ++ B3)), a ∈ T' ++ (A1 ++ ((p :: O') ++ A3)) := fun a m => by
      rcases List.mem_append.mp m with m | m
      · exact List.mem_append_left _ m
      · have q : a ∈ B1 ++ B3 ∨ a ∈ p :: O' := by
          rcases List.mem_append.mp m with m | m
          · exact .inl (List.mem_append_left _ m)
          · rcases List.mem_append.mp m with m | m
            · exact .inr m
            · exact .inl (List.mem_append_right _ m)
        rcases q with q | q
        · exact List.mem_append_right _ (mem3 (sub13 a q))
        · exact List.mem_append_right _ (List.mem_append_right _ (List.mem_append_left _ q))
    refine ⟨T' ++ (B1 ++ ((p :: O') ++ B3)), ⟨?_, ?_, fun a m => S.dj a (inN a (inM a m)), fun a h => ?_⟩, fun a o h k => ?_, fun a m => .inl (inN a (inM a m))⟩
    · have slT : SlA G (upd H p u') (fun a => a ∈ T' ++ (A1 ++ ((p :: O') ++ A3)) ∨ R a) (ts'.map some) (tos'.map some) T' := OwP.toS h1 (rT'.go g (keepP T' fun m => pC' (List.mem_append_left _ m)))
      exact (slT.app sl3).go (Go.less fun a h => h.imp (inM a) id) fun _ _ => rfl
    · obtain ⟨b1, b3, b13⟩ := List.nodup_append.mp nd13
      have d2 : ∀ a ∈ p :: O', a ∉ B1 ++ B3 := fun a m z => by
        rcases List.mem_cons.mp m with w | m
        · exact p13 (w ▸ sub13 a z)
        · exact dis a (List.mem_append_right _ m) (sub13 a z)
      refine List.nodup_append.mpr ⟨ndT', List.nodup_append.mpr ⟨b1, List.nodup_append.mpr ⟨List.nodup_cons.mpr ⟨fun m => pC' (List.mem_append_right _ m), ndO'⟩, b3, fun a m b m' z => ?_⟩, fun a m b m' z => ?_⟩, fun a m b m' z => ?_⟩
      · subst z; exact d2 a m (List.mem_append_right _ m')
      · subst z
        rcases List.mem_append.mp m' with m' | m'
        · exact d2 a m' (List.mem_append_left _ m)
        · exact b13 a m a m' rfl
      · subst z
        rcases List.mem_append.mp m' with m' | m'
        · exact dis a (List.mem_append_left _ m) (sub13 a (List.mem_append_left _ m'))
        · rcases List.mem_append.mp m' with m' | m'
          · rcases List.mem_cons.mp m' with w | m'
            · exact pC' (w ▸ List.mem_append_left _ m)
            · exact ndTO a m a m' rfl
          · exact dis a (List.mem_append_left _ m) (sub13 a (List.mem_append_right _ m'))
    · obtain ⟨o, ho⟩ := S.ft a h
      exact ⟨o, by rw [upd_ne fun z => pR (by rw [← z]; exact h)]; exact ho⟩
    · have k' : a ∉ T ++ (A1 ++ (p :: A0 ++ A3)) := k.resolve_left (by decide)
      rw [upd_ne fun z => k' (by rw [z]; exact pA)]
      exact h
theorem SR.write {R : Addr → Prop} {H : Hp} {s : St} {e : Env} {A : List Addr} {i : Nat} {os os' tos tos' : List O} {ts ts' xs' : List V} {l : List (V × O)} {exv : List V} {exd : List D} {p : Addr} {xs : List V} (S : SR G R H (ts.map some ++ s) (tos.map some ++ e) A) (hi : e[i]? = some (some (.ls os))) (hv : s[i]? = some (some (.ref p))) (hp : H p = some (.lst xs))
    (hl : ts.length = tos.length) (hex : ImA G H (fun a => a ∈ A ∨ R a) exv exd) (hperm : (ts.zip tos ++ (xs.zip os ++ exv.zip (exd.map O.im))).Perm l) (hsub : (ts'.zip tos' ++ xs'.zip os').Sublist l) (h1 : ts'.length = tos'.length) (h2 : xs'.length = os'.length) :
    ∃ A', SR G R (upd H p (.lst xs')) (ts'.map some ++ s) (tos'.map some ++ e.set i (some (.ls os'))) A' ∧ Fr0 H A (upd H p (.lst xs')) A' :=
  SR.writeG S hi hv (fun L A2 r => by
    cases r with
    | @ls _ vs _ A0 hH rO => rw [hp] at hH; cases hH; exact ⟨_, rfl, rO⟩) (fun L O' r => .ls upd_same r) hl hex hperm hsub h1 h2
end
end PV

set_option Elab.async false
set_option linter.all false
set_option maxRecDepth 100000
set_option maxHeartbeats 4000000
/-! PWg: calls of defs where no guard stands around: FnG is a def's promise for such calls alone (repr of a list asks it), and what is raised is wished for at the caller's slots. -/
namespace PV
open PySem PySem.Spec PyProof.Rows L2

/-- room for k calls, and no guard around -/
structure RmG (k : Nat) (A : Around) : Prop where
  r : Room k A
  g : A.guards = some []
theorem RmG.mono {j k : Nat} {A : Around} (h : RmG k A) (le : j ≤ k) : RmG j A := ⟨h.r.mono le, h.g⟩
theorem RmG.deeper {k : Nat} {A : Around} (h : RmG (k + 1) A) (en : PySem.Env) : RmG k (A.deeper en) := ⟨h.r.deeper en, h.g⟩
theorem RmG.in1 {k : Nat} {A : Around} (h : RmG (k + 1) A) : RmG k A.in1 := ⟨h.r.in1, h.g⟩
theorem RmG.make {k : Nat} {A : Around} (h : RmG (k + 1) A) (C : Addr) (us : List Value) (kw : List (Str × Value)) : RmG k (A.under (.builtin "type.__call__" ⟨.ref C :: us, kw⟩)) :=
  ⟨h.r.make C us kw, by
    have e : (A.under (.builtin "type.__call__" ⟨.ref C :: us, kw⟩)).guards = A.guards := by
      first | rfl | simp [Around.under, Code.guards, Code.isGuard, guardIds, pushGuards]
    rw [e]; exact h.g⟩

structure FnG (P : Program) (w : World) (K : PySem.W.Frag) (mg : Str → Option Value) (base : Heap) (k : Nat) (f : Addr) (fd : FuncData) (ps : List Str) (sp : Sp) : Prop where
  len : ∀ vs H Q E, sp vs H Q E → vs.length = ps.length
  run : ∀ (A : Around) (st : List PySem.Env) (s : Shared) (H : Hp) (ar : Args) (us : List Value) (vs : List V) (Q : VK) (E : XK), RmG k A → Env0 P w K mg base A st s H →
    BindsTo s fd ar (ps.zip us) → Vals vs us → sp vs H Q E → codeAny (model P w) A (.call (.ref f) ar) (CR (L2.CX P w) st P w H s Q E) s
section
variable {P : Program} {w : World} {K : PySem.W.Frag} {mg : Str → Option Value} {base : Heap} {j k : Nat} {f : Addr} {fd : FuncData} {ps : List Str} {sp sp' : Sp}
theorem FnG.mono (F : FnG P w K mg base j f fd ps sp) (le : j ≤ k) : FnG P w K mg base k f fd ps sp :=
  ⟨F.len, fun A st s H ar us vs Q E r => F.run A st s H ar us vs Q E (r.mono le)⟩
theorem FnG.imp (F : FnG P w K mg base k f fd ps sp) (h : ∀ vs H Q E, sp' vs H Q E → sp vs H Q E) : FnG P w K mg base k f fd ps sp' :=
  ⟨fun vs H Q E q => F.len vs H Q E (h vs H Q E q), fun A st s H ar us vs Q E r e b v q => F.run A st s H ar us vs Q E r e b v (h vs H Q E q)⟩
end

section
variable {X : Cx} {k : Nat} {f C : Addr} {fd : FuncData} {ps : List Str} {sp : Sp} {dvs : List V} {ds : List Value} {W : WX} {x m : Str} {p pos apos : Pos} {ex o : Expr} {es : List Expr} {ta : TE} {t : TA}
/-- what stands behind a def's run, by the state ahead of it -/
theorem behind {pins : List (Addr × Obj)} {σ : L2.St} {H : Hp} {s : Shared} {Q : VK} {r : Result} {s' : Shared} (tk : Takes X W) (I : Inv X pins σ H s) (h : CR (L2.CX X.prog X.w) X.stack X.prog X.w H s Q (WE W σ) r s') :
    match r with
    | .ok (.ret u) => EP X pins σ Q u s'
    | .ok _ => False
    | .error y => X.xe y s' := by
  cases r with
  | error y => exact passAt tk σ pins H s y s' I h
  | ok fl =>
    cases fl
    case ret u => exact I.after h
    all_goals exact (show False from h)
theorem runG {pins : List (Addr × Obj)} {σ : L2.St} {H : Hp} {s : Shared} {Q : VK} {us : List Value} {vs : List V} (F : FnG X.prog X.w X.K X.mg X.base k f fd ps sp) (hr : RmG k X.A) (hb : Binds X.K fd ps ds) (hd : Vals dvs ds) (tk : Takes X W)
    (I : Inv X pins σ H s) (rv : Vals vs us) (h : sp (vs ++ dvs) H Q (WE W σ)) : wpAny (model X.prog X.w) X.A (call (.ref f) us) (EP X pins σ Q) X.xe s := by
  have all : Vals (vs ++ dvs) (us ++ ds) := rv.append hd
  have n : (us ++ ds).length = ps.length := all.length ▸ F.len _ _ _ _ h
  refine wpAny_call (codeAny_mono (F.run X.A X.stack s H ⟨us, []⟩ _ _ Q (WE W σ) hr I.env0 (hb s us I.kIn n) all h) ?_)
  intro r s' z
  have y := behind tk I z
  cases r with
  | error e => exact y
  | ok fl => cases fl <;> exact y

/-- f(a, ..) -/
theorem pe_callG (F : FnG X.prog X.w X.K X.mg X.base k f fd ps sp) (hr : RmG k X.A) (hg : Gl X x) (hm : X.mg x = some (.ref f)) (hk : PySem.W.keepIn X.K (.ref f) = true) (hb : Binds X.K fd ps ds) (hd : Vals dvs ds) (tk : Takes X W) (ha : PA X (ex :: es) t)
    (hdb : (x == ("__debug__" : Str)) = false := by decide) (he : starEach (ex :: es) X.env = (false, eval ex X.env) :: starEach es X.env := by rfl) (hpl : (backTo pos (starEach es X.env)).any (·.1) = false := by rfl) :
    PE X (.Call (.Name x p) (ex :: es) [] pos) (tCallSD sp dvs (WE W) t) :=
  ⟨fun pins s σ H Q I h => wpAny_Call_Name_kw (ld_glob I hg hm (PySem.W.callWith_K (h₀ := X.base) I.ok.mod.kin hk (thn (ha.run pos pins s σ H _ I h) fun us s1 ⟨vs, H1, I1, rv, q⟩ => ⟨I1.kIn, runG F hr hb hd tk I1 rv q⟩) he hpl) hdb)⟩
/-- f() -/
theorem pe_call0G (F : FnG X.prog X.w X.K X.mg X.base k f fd ps sp) (hr : RmG k X.A) (hg : Gl X x) (hm : X.mg x = some (.ref f)) (hk : PySem.W.keepIn X.K (.ref f) = true) (hb : Binds X.K fd ps ds) (hd : Vals dvs ds) (tk : Takes X W) (hdb : (x == ("__debug__" : Str)) = false := by decide) :
    PE X (.Call (.Name x p) [] [] pos) (tCallSD sp dvs (WE W) tNil) :=
  ⟨fun pins s σ H Q I h => wpAny_Call_Name_kw (ld_glob I hg hm (PySem.W.callWith_K0 I.kIn hk (runG (us := []) F hr hb hd tk I .nil h)) hdb)⟩

/-- o.m(a, ..) -/
def tMethG (C : Addr) (m : Str) (sp : Sp) (dvs : List V) (W : WX) (ta : TE) (t : TA) : TE := fun σ H Q => ta σ H fun x H1 => ∃ a dx fs, x = .ref a ∧ H1 a = some (.ins C dx fs) ∧ fs.lookup m = none ∧ t σ H1 fun vs H2 => sp (x :: (vs ++ dvs)) H2 Q (WE W σ)
theorem pe_methG {pl : Sem Bool} (ho : PE X o ta) (c : Cls X.K C) (hm : Meth X.K C m f) (F : FnG X.prog X.w X.K X.mg X.base k f fd ps sp) (hr : RmG k X.A) (hb : Binds X.K fd ps ds) (hd : Vals dvs ds) (tk : Takes X W) (ha : PA X (ex :: es) t)
    (hst : starEach (ex :: es) X.env = (false, eval ex X.env) :: starEach es X.env) (hpl : (backTo pos (starEach es X.env)).any (·.1) = false)
    (ht : eval (.Call (.Attribute o m apos) (ex :: es) [] pos) X.env = (do
      let ov ← eval o X.env
      standAt apos.atName
      let (f, first) ← holding [ov] (getMethod ov m pl)
      callWith pos f first (backTo pos (starEach (ex :: es) X.env)) (backToKw pos (keywordEach [] X.env)))) :
    PE X (.Call (.Attribute o m apos) (ex :: es) [] pos) (tMethG C m sp dvs W ta t) := by
  constructor
  intro pins s σ H Q I h
  refine PySem.W.methodCall_KW (pl := pl) (thn (ho.run pins s σ H _ I h) ?_) ht
  rintro u s1 ⟨x, H1, I1, rx, a, dx, fs, rfl, ea, l, q⟩
  cases rx
  exact getmeth_ok I1 ea c hm l (PySem.W.callWith_K (first := [.ref a]) (h₀ := X.base) I.ok.mod.kin hm.kp (thn (ha.run pos pins s1 σ H1 _ I1 q) fun us s2 ⟨vs, H2, I2, rv, q2⟩ => ⟨I2.kIn, runG (vs := .ref a :: vs) (us := .ref a :: us) F hr hb hd tk I2 (.cons rfl rv) q2⟩) hst hpl)
/-- o.m() -/
theorem pe_meth0G {pl : Sem Bool} (ho : PE X o ta) (c : Cls X.K C) (hm : Meth X.K C m f) (F : FnG X.prog X.w X.K X.mg X.base k f fd ps sp) (hr : RmG k X.A) (hb : Binds X.K fd ps ds) (hd : Vals dvs ds) (tk : Takes X W)
    (ht : eval (.Call (.Attribute o m apos) [] [] pos) X.env = (do
      let ov ← eval o X.env
      standAt apos.atName
      let (f, first) ← holding [ov] (getMethod ov m pl)
      callWith pos f first (backTo pos (starEach [] X.env)) (backToKw pos (keywordEach [] X.env)))) :
    PE X (.Call (.Attribute o m apos) [] [] pos) (tMethG C m sp dvs W ta tNil) := by
  constructor
  intro pins s σ H Q I h
  refine PySem.W.methodCall_KW (pl := pl) (thn (ho.run pins s σ H _ I h) ?_) ht
  rintro u s1 ⟨x, H1, I1, rx, a, dx, fs, rfl, ea, l, q⟩
  cases rx
  exact getmeth_ok I1 ea c hm l (PySem.W.callWith_K0 (first := [.ref a]) I1.kIn hm.kp (runG (us := [.ref a]) (vs := [.ref a]) F hr hb hd tk I1 (.cons rfl .nil) q))

/-- C(a, ..) -/
def tMakeG (C : Addr) (sp : Sp) (dvs : List V) (W : WX) (t : TA) : TE := fun σ H Q => t σ H fun vs H1 => ∀ x dx, H1 x = none → H1 dx = none → dx ≠ x →
  sp (.ref x :: (vs ++ dvs)) (upd (upd H1 dx (.own x)) x (.ins C dx [])) (fun v H2 => v = .non ∧ Q (.ref x) H2) (WE W σ)
theorem makeG {pins : List (Addr × Obj)} {σ : L2.St} {H : Hp} {s : Shared} {Q : VK} {us : List Value} {vs : List V} (M : Mk X.K C f) (F : FnG X.prog X.w X.K X.mg X.base k f fd ps sp) (hr : RmG (k + 1) X.A) (hb : Binds X.K fd ps ds) (hd : Vals dvs ds) (tk : Takes X W)
    (I : Inv X pins σ H s) (rv : Vals vs us) (h : ∀ x dx, H x = none → H dx = none → dx ≠ x → sp (.ref x :: (vs ++ dvs)) (upd (upd H dx (.own x)) x (.ins C dx [])) (fun v H2 => v = .non ∧ Q (.ref x) H2) (WE W σ)) :
    wpAny (model X.prog X.w) X.A (call (.ref C) us) (EP X pins σ Q) X.xe s := by
  obtain ⟨d, hdd⟩ : ∃ d, d = s.heap.objs.size := ⟨_, rfl⟩
  have J := Inv.made (C := C) I
  have q0 := h (s.heap.objs.size + 1) s.heap.objs.size (I.hok.fresh (Nat.le_succ _)) (I.hok.fresh (Nat.le_refl _)) (Nat.ne_of_lt (Nat.lt_succ_self _))
  have all : Vals (V.ref (s.heap.objs.size + 1) :: (vs ++ dvs)) (Value.ref (s.heap.objs.size + 1) :: (us ++ ds)) := .cons rfl (rv.append hd)
  have n : (Value.ref (s.heap.objs.size + 1) :: us ++ ds).length = ps.length := by rw [← F.len _ _ _ _ q0, all.length]; rfl
  refine wpAny_call (make_map (f := f) I.kIn M.makes M.init (beq_iff_eq.mp M.fn) ?_)
  refine codeAny_mono (F.run _ X.stack _ _ ⟨Value.ref (s.heap.objs.size + 1) :: us, []⟩ _ _ _ (WE W σ) (hr.make C us []) (J.env0.make C us []) (hb _ (Value.ref (s.heap.objs.size + 1) :: us) J.kIn n) all q0) ?_
  intro r s' z
  cases r with
  | error y => exact passAt tk σ pins _ _ y s' J z
  | ok fl =>
    cases fl
    case ret u =>
      obtain ⟨v, H3, I3, rv3, e3, q3⟩ := J.after z
      subst e3
      exact ⟨rv3, V.ref (s.heap.objs.size + 1), H3, I3, rfl, q3⟩
    all_goals exact (show False from z)
theorem pe_makeG (M : Mk X.K C f) (F : FnG X.prog X.w X.K X.mg X.base k f fd ps sp) (hr : RmG (k + 1) X.A) (hg : Gl X x) (hm : X.mg x = some (.ref C)) (hb : Binds X.K fd ps ds) (hd : Vals dvs ds) (tk : Takes X W) (ha : PA X (ex :: es) t)
    (hdb : (x == ("__debug__" : Str)) = false := by decide) (he : starEach (ex :: es) X.env = (false, eval ex X.env) :: starEach es X.env := by rfl) (hpl : (backTo pos (starEach es X.env)).any (·.1) = false := by rfl) :
    PE X (.Call (.Name x p) (ex :: es) [] pos) (tMakeG C sp dvs W t) :=
  ⟨fun pins s σ H Q I h => wpAny_Call_Name_kw (ld_glob I hg hm (PySem.W.callWith_K (h₀ := X.base) I.ok.mod.kin M.kp (thn (ha.run pos pins s σ H _ I h) fun us s1 ⟨vs, H1, I1, rv, q⟩ => ⟨I1.kIn, makeG M F hr hb hd tk I1 rv q⟩) he hpl) hdb)⟩
theorem pe_make0G (M : Mk X.K C f) (F : FnG X.prog X.w X.K X.mg X.base k f fd ps sp) (hr : RmG (k + 1) X.A) (hg : Gl X x) (hm : X.mg x = some (.ref C)) (hb : Binds X.K fd ps ds) (hd : Vals dvs ds) (tk : Takes X W) (hdb : (x == ("__debug__" : Str)) = false := by decide) :
    PE X (.Call (.Name x p) [] [] pos) (tMakeG C sp dvs W tNil) :=
  ⟨fun pins s σ H Q I h => wpAny_Call_Name_kw (ld_glob I hg hm (PySem.W.callWith_K0 I.kIn M.kp (makeG (us := []) M F hr hb hd tk I .nil h)) hdb)⟩

/-- e.f, a property -/
theorem pe_propG {g pr : Addr} {fn : Str} (ho : PE X o ta) (c : Cls X.K C) (hp : PropOf X.K C fn pr g) (F : FnG X.prog X.w X.K X.mg X.base k g fd ps sp) (hr : RmG (k + 1) X.A) (hb : Binds X.K fd ps ds) (hd : Vals dvs ds)
    (hab : attributeBase o fn X.env (eval o X.env) = eval o X.env) : PE X (.Attribute o fn pos) (tProp C sp dvs E0 ta) := by
  constructor
  intro pins s σ H Q I h
  refine attr_of hab (thn (ho.run pins s σ H _ I h) ?_)
  rintro u s1 ⟨x, H1, I1, rx, a, dx, fs, rfl, ea, q⟩
  cases rx
  obtain ⟨mA, O, _⟩ := ins_get I1.hok ea
  obtain ⟨od, J, _⟩ := O.look
  obtain ⟨more, hrec⟩ := hp.rec_
  have cls : (PySem.W.clsIn X.K C).isSome = true := by
    obtain ⟨cd, e, _⟩ := PySem.W.any_some c.hd
    rw [e]; rfl
  have I2 := I1.tok (s1.toks + 1)
  have n : ([Value.ref a] ++ ds).length = ps.length := by
    have := F.len _ _ _ _ q
    rw [← this]; simp [hd.length]
  have body : codeAny (model X.prog X.w) X.A.in1 (.call (.ref g) ⟨[.ref a], []⟩) _ { s1 with toks := s1.toks + 1 } := F.run X.A.in1 X.stack _ H1 ⟨[.ref a], []⟩ (.ref a :: ds) (.ref a :: dvs) Q E0 hr.in1 I2.env0.in1 (hb _ [.ref a] I2.kIn n) (.cons rfl hd) q
  refine PySem.W.get_bind I1.kIn J (PySem.W.plainGet_of (c.get fn)).1 (PySem.W.findObj_data cls hp.at_ hp.get hp.tak) (PySem.W.plainGet_of (c.get fn)).2 ?_
  refine wpAny_call (PySem.W.prop_get (s := { s1 with toks := s1.toks + 1 }) I1.kIn hrec (codeAny_mono body ?_))
  intro r s' z
  cases r with
  | error y =>
    obtain ⟨_, _, _, _, _, _, _, _, _, _, _, _, no⟩ := z
    exact no.elim
  | ok fl =>
    cases fl
    case ret v =>
      obtain ⟨v', H3, I3, rv3, q3⟩ := I2.after z
      exact wpAny_of_eq (PySem.W.handedOut_of (handed_of rv3)) ⟨v', H3, I3, rv3, q3⟩
    all_goals exact (show False from z)
end

/-- a def of the text, by its body -/
theorem fnG_of {P : Program} {w : World} {K : PySem.W.Frag} {mg : Str → Option Value} {base : Heap} {k : Nat} {f : Addr} {name qual : Str} {pr : Arguments} {body : List Stmt} {sc : Scope} {dV kV doc pm cdv ct oc : Value} {an od : Option Addr}
    {osl : Array (Option Value)} {N ps : List Str} {sp : Sp} (lk : K.lookup f = some ⟨oc, od, .func (PySem.W.fnOf name qual pr body sc dV kV doc pm an cdv ct), osl⟩) (hcd : PySem.W.codeIn K cdv qual = true) (S : FnScope N ps sc) (len : ∀ vs H Q E, sp vs H Q E → vs.length = ps.length)
    (hb : ∀ (A : Around) (st : List PySem.Env) (s : Shared) (H : Hp) (vs : List V) (Q : VK) (E : XK), RmG k (A.deeper (envOfC qual sc s.heap.objs.size f cdv)) → sp vs H Q E →
      ∃ t, PSs (cxOf (L2.CX P w) P w K mg base N qual sc f cdv A st s H E) body t ∧ t { nx := fun _ H' => Q .non H', rt := Q } (L2.start N vs) H) :
    FnG P w K mg base (k + 1) f (PySem.W.fnOf name qual pr body sc dV kV doc pm an cdv ct) ps sp := by
  constructor
  · exact len
  intro A st s H ar us vs Q E r e0 bd rv q
  have up : ∀ b ob, base.get? b = some ob → s.heap.get? b = some ob := fun b ob e => (e0.bs b ob e).1
  have KX : K.In s.heap := e0.mod.kin.keeps up
  have kinds : ∀ y ∈ ps.zip us, sc.names.lookup y.1 = some .local ∨ (sc.names.lookup y.1 = some .cell ∧ ((cellsFrom (s.heap.objs.size + 1) sc.names []).lookup y.1).isSome = true) := by
    rintro ⟨n, v⟩ hy
    exact (S.par n (List.of_mem_zip hy).1).imp id fun z => ⟨z, PySem.W.cellsFrom_some _ _ _ (.inl z)⟩
  refine codeAny_call_function r.r.depth (KX _ _ lk) rfl S.co S.gen rfl (PySem.W.codeRec_of KX hcd) (bd _ _ _ _ (wpAny_newFunctionEnv_cells S.kind kinds ?_))
  rintro en rfl s1 x
  refine ⟨(e0.mod.nolimit.keeps up).keeps x.toInCall.keep, codeAny_func ?_⟩
  obtain ⟨t, ht, hq⟩ := hb A st s H vs Q E (r.deeper _) q
  have I0 := inv_start (P := P) (E := E) (CX := L2.CX P w) S r.r.hd e0 (len _ _ _ _ q) rv x
  refine wpAny_mono (ht.run [] s1 _ H _ I0 hq) ?_ fun _ _ z => z
  intro fl s' z
  cases fl with
  | ret u =>
    obtain ⟨v, σ', H', J, rv', q'⟩ := z
    exact ⟨v, H', J.os, J.bare, J.base, J.hok, rv', q'⟩
  | next =>
    obtain ⟨σ', H', J, q'⟩ := z
    exact ⟨.non, H', J.os, J.bare, J.base, J.hok, rfl, q'⟩
  | brk =>
    obtain ⟨_, _, _, q'⟩ := z
    exact q'.elim
  | cont =>
    obtain ⟨_, _, _, q'⟩ := z
    exact q'.elim
theorem okG {P : Program} {w : World} {K : PySem.W.Frag} {mg : Str → Option Value} {base : Heap} {x qual : Str} {st : Stmt} {f : Addr} {fd : FuncData} {N ps : List Str} {k : Nat} {sp : Sp} (F : Fun K x qual st f fd) (S : FnScope N ps (defScope st)) (len : ∀ vs H Q E, sp vs H Q E → vs.length = ps.length)
    (hb : ∀ (cdv : Value) (A : Around) (o : List PySem.Env) (s : Shared) (H : Hp) (vs : List V) (Q : VK) (E : XK), RmG k (A.deeper (envOfC qual (defScope st) s.heap.objs.size f cdv)) → sp vs H Q E →
      ∃ t, PSs (cxOf (L2.CX P w) P w K mg base N qual (defScope st) f cdv A o s H E) (defBody st) t ∧ t { nx := fun _ H' => Q .non H', rt := Q } (L2.start N vs) H) : FnG P w K mg base (k + 1) f fd ps sp := by
  obtain ⟨_, _, _, _, _, _, cdv, _, _, rfl, lk, hcd⟩ := F.ex
  exact fnG_of lk hcd S len fun A o s H vs Q E r q => hb cdv A o s H vs Q E r q
/-! ### defs with defaults -/
theorem okGD {P : Program} {w : World} {K : PySem.W.Frag} {mg : Str → Option Value} {base : Heap} {x qual : Str} {pr : Arguments} {body : List Stmt} {sc : Scope} {dvs : List V} {kws : List (Str × V)} {f : Addr} {fd : FuncData} {N ps : List Str} {k : Nat} {sp : Sp} (F : FunD K x qual pr body sc dvs kws f fd) (S : FnScope N ps sc) (len : ∀ vs H Q E, sp vs H Q E → vs.length = ps.length)
    (hb : ∀ (cdv : Value) (A : Around) (o : List PySem.Env) (s : Shared) (H : Hp) (vs : List V) (Q : VK) (E : XK), RmG k (A.deeper (envOfC qual sc s.heap.objs.size f cdv)) → sp vs H Q E →
      ∃ t, PSs (cxOf (L2.CX P w) P w K mg base N qual sc f cdv A o s H E) body t ∧ t { nx := fun _ H' => Q .non H', rt := Q } (L2.start N vs) H) : FnG P w K mg base (k + 1) f fd ps sp := by
  obtain ⟨_, _, _, _, _, _, _, cdv, _, _, rfl, lk, hcd, _⟩ := F.ex
  exact fnG_of lk hcd S len fun A o s H vs Q E r q => hb cdv A o s H vs Q E r q

end PV

set_option Elab.async false
set_option linter.all false
set_option maxRecDepth 100000
set_option maxHeartbeats 4000000
/-! PVi: a def is worth what its body gives; list methods; comprehensions. -/
namespace PV
open PySem L2
open PyProof.Rows (envOfC)

def outs (B : List Nat) (e : Env) : Nat → List O → Option (List O)
  | _, [] => some []
  | i, o :: os => match (if i ∈ B then slotO e i else match o with | .im d => some (.im d) | _ => none), outs B e (i + 1) os with
    | some a, some b => some (a :: b)
    | _, _ => none
def fDef (B : List Nat) (m : Nat) (body : Env → SRes) : List O → FRes := fun os => match body (os.map some ++ List.replicate m none) with
  | .rt o e => match outs B e 0 os with
    | some os' => .ok o os'
    | none => .no
  | .nx e => match outs B e 0 os with
    | some os' => .ok (.im .non) os'
    | none => .no
  | .er x e => match outs B e 0 os with
    | some os' => .er x os'
    | none => .no
  | _ => .no
section
variable {G : Cl} {R : Addr → Prop} {H H' : Hp} {B : List Nat}
theorem SR.init {s xs : St} {e cs : Env} {A : List Addr} (hl : xs.length = cs.length) (S : SR G R H (xs ++ s) (cs ++ e) A) : ∃ A', SR G R H xs cs A' ∧ ∀ a ∈ A', a ∈ A := by
  obtain ⟨A1, A2, rfl, r1, r2⟩ := SlA.split hl S.sl
  exact ⟨A1, S.less r1 (List.nodup_append.mp S.nd).1 fun a m => List.mem_append_left _ m, fun a m => List.mem_append_left _ m⟩
theorem outs_len : ∀ {i : Nat} {os os' : List O} {e : Env}, outs B e i os = some os' → os'.length = os.length
  | _, [], _, _, h => by simp [outs] at h; subst h; rfl
  | i, o :: os, os', e, h => by
    unfold outs at h
    split at h
    · rename_i a b h1 h2
      cases h
      simp [outs_len h2]
    · cases h
/-- the arguments behind the body, pushed one by one upon T -/
theorem SR.outs {T : St} {E : Env} {s : St} {e : Env} {L : Addr → Prop} (pre : Nat) (hT : ∀ j, T[pre + j]? = s[j]?) (hE : ∀ j, E[pre + j]? = e[j]?) (hpl : pre ≤ E.length) : ∀ {i : Nat} {os os' : List O} {vs : List V} {A : List Addr},
    SR G R H' T E A → vs.length = os.length → (∀ (j : Nat) (v : V), vs[j]? = some v → i + j ∈ B → s[i + j]? = some (some v)) → (∀ (j : Nat) (v : V) (d : D), vs[j]? = some v → os[j]? = some (.im d) → Im G H' L v d) → (∀ a, a ∈ A ∨ R a → L a) →
    outs B e i os = some os' → ∃ A' E', SR G R H' (vs.map some ++ T) (os'.map some ++ E') A' ∧ (∀ a ∈ A', a ∈ A) ∧ E'.length = E.length ∧ ∀ k, k < pre + i → E'[k]? = E[k]?
  | i, [], os', [], A, S, _, _, _, _, h => by
    simp [PV.outs] at h; subst h
    exact ⟨A, E, S, fun _ m => m, rfl, fun _ _ => rfl⟩
  | i, [], os', _ :: _, A, S, hl, _, _, _, h => by simp at hl
  | i, o :: os, os', [], A, S, hl, _, _, _, h => by simp at hl
  | i, o :: os, os', v :: vs, A, S, hl, hv, hi, hL, h => by
    unfold PV.outs at h
    split at h
    · rename_i a b h1 h2
      cases h
      obtain ⟨A1, E1, S1, m1, l1, k1⟩ := SR.outs pre hT hE hpl (i := i + 1) (os := os) (vs := vs) S (by simpa using hl) (fun j w hj hb => by
          have := hv (j + 1) w (by simpa using hj) (by rw [show i + (j + 1) = i + 1 + j by omega]; exact hb)
          rw [show i + (j + 1) = i + 1 + j by omega] at this; exact this)
        (fun j w d hj hd => hi (j + 1) w d (by simpa using hj) (by simpa using hd)) hL h2
      have hob : os.length = b.length := (outs_len h2).symm
      have hvl : vs.length = os.length := by simpa using hl
      by_cases hB : i ∈ B
      · rw [if_pos hB] at h1
        have g1 := slotO_eq h1
        have gE : E[pre + i]? = some (some a) := by rw [hE, g1]
        have gE1 : E1[pre + i]? = some (some a) := by rw [k1 _ (by omega), gE]
        have gW : (b.map some ++ E1)[b.length + (pre + i)]? = some (some a) := by
          have := get_app (b.map some) E1 (pre + i)
          rw [List.length_map] at this
          rw [this, gE1]
        have sW : (vs.map some ++ T)[b.length + (pre + i)]? = some (some v) := by
          have := get_app (vs.map some) T (pre + i)
          rw [List.length_map, hvl, hob] at this
          rw [this, hT]
          have := hv 0 v rfl (by simpa using hB)
          simpa using this
        obtain ⟨w, A2, q1, S2, m2⟩ := S1.move gW
        rw [sW] at q1; cases q1
        have st := set_app (b.map some) E1 (pre + i) none
        rw [List.length_map] at st
        rw [st] at S2
        refine ⟨A2, E1.set (pre + i) none, S2, fun a m => m1 a (m2 a m), by simp [l1], fun k hk => ?_⟩
        rw [List.getElem?_set_ne (by omega), k1 k (by omega)]
      · rw [if_neg hB] at h1
        cases o with
        | ls _ => cases h1
        | ob _ _ _ => cases h1
        | im d =>
          cases h1
          refine ⟨A1, E1, ⟨.so (A := []) (.im ((hi 0 v d rfl rfl).go (Go.less fun a z => hL a (z.imp (m1 a) id)))) S1.sl, S1.nd, S1.dj, S1.ft⟩, m1, l1, fun k hk => k1 k (by omega)⟩
    · cases h
theorem def_okX {P : Program} {w : World} {K : PySem.W.Frag} {mg : Str → Option Value} {base : Heap} {qual : Str} {st : Stmt} {f : Addr} {fd : FuncData} {N ps : List Str} {k n m : Nat} {body : Env → SRes} {G : Cl} {B : List Nat} (hn : ps.length = n) (hm : N.length = n + m)
    (mk : ∀ {sp : Sp}, (∀ vs H Q E, sp vs H Q E → vs.length = ps.length) → (∀ (cdv : Value) (A : Around) (o : List PySem.Env) (s : Shared) (H : Hp) (vs : List V) (Q : VK) (E : XK), RmG k (A.deeper (envOfC qual (defScope st) s.heap.objs.size f cdv)) → sp vs H Q E →
      ∃ t, PSs (cxOf (L2.CX P w) P w K mg base N qual (defScope st) f cdv A o s H E) (defBody st) t ∧ t { nx := fun _ H' => Q .non H', rt := Q } (L2.start N vs) H) → FnG P w K mg base (k + 1) f fd ps sp)
    (hb : ∀ (cdv : Value) (A : Around) (outer : List PySem.Env) (s : Shared) (H : Hp) (E : XK), RmG k (A.deeper (envOfC qual (defScope st) s.heap.objs.size f cdv)) →
      PSs (cxOf (L2.CX P w) P w K mg base N qual (defScope st) f cdv A outer s H E) (defBody st) (tS G (fun c d _ H' => E c d H') B body)) : FnG P w K mg base (k + 1) f fd ps (SpF G n (fDef B m body)) := by
  refine mk (fun vs H Q E h => by rw [h.1, hn]) fun cdv A outer s H vs Q E hr h => ⟨_, hb cdv A outer s H E hr, ?_⟩
  obtain ⟨hl, R, os, A0, S0, z⟩ := h
  have hos : os.length = n := by have := S0.len; simp at this; omega
  have hst : L2.start N vs = vs.map some ++ List.replicate m none := by unfold L2.start; rw [hl, hm]; congr 2; omega
  have S1 : SR G R H (L2.start N vs) (os.map some ++ List.replicate m none) A0 := by
    rw [hst]
    have r : SlA G H (fun a => a ∈ A0 ∨ R a) (List.replicate m (none : Option V)) (List.replicate m (none : Option O)) [] := by
      clear hm hst z
      induction m with
      | zero => exact .nil
      | succ m ih => exact .no ih
    have q := S0.sl.app r
    rw [List.append_nil] at q
    exact ⟨q, S0.nd, S0.dj, S0.ft⟩
  refine ⟨R, _, A0, S1, ?_⟩
  unfold fDef at z
  -- what the arguments are at the entry
  obtain ⟨iP, _⟩ := SlA.toP S0.sl
  have ent : ∀ (j : Nat) (v : V) (d : D), vs[j]? = some v → os[j]? = some (.im d) → Im G H (fun a => a ∈ A0 ∨ R a) v d := by
    have key : ∀ {vs : List V} {os : List O} {C : List Addr}, SlA G H (fun a => a ∈ A0 ∨ R a) (vs.map some) (os.map some) C → ∀ (j : Nat) (v : V) (d : D), vs[j]? = some v → os[j]? = some (.im d) → Im G H (fun a => a ∈ A0 ∨ R a) v d := by
      intro vs
      induction vs with
      | nil => intro os C _ j v d h; simp at h
      | cons u vs ih =>
        intro os C r j v d hv hd
        cases os with
        | nil => simp at hd
        | cons o os =>
          cases r with
          | so h0 r =>
            cases j with
            | zero => simp at hv hd; subst hv; subst hd; cases h0 with | im h0 => exact h0
            | succ j => exact ih r j v d (by simpa using hv) (by simpa using hd)
    exact key S0.sl
  have keep : ∀ {s' : St}, keepB B (L2.start N vs) s' → ∀ (j : Nat) (v : V), vs[j]? = some v → j ∈ B → s'[j]? = some (some v) := fun {s'} kb j v hv hj => by
    rw [kb j hj, hst, List.getElem?_append_left (by simpa using lt_of_get hv), List.getElem?_map, hv]; rfl
  have fin : ∀ {o : O} {e' : Env} {os' : List O} {v : V} {s' : St} {H' : Hp} {A' : List Addr}, SR G R H' (some v :: s') (some o :: e') A' → keepB B (L2.start N vs) s' → Fr0 H A0 H' A' → outs B e' 0 os = some os' →
      ∃ A2, SR G R H' (some v :: vs.map some) (some o :: os'.map some) A2 ∧ Fr0 H A0 H' A2 := fun {o e' os' v s' H' A'} S2 kb F2 ho => by
    obtain ⟨A3, E3, S3, m3, l3, k3⟩ := SR.outs (s := s') (e := e') 1 (fun j => by rw [Nat.add_comm, List.getElem?_cons_succ]) (fun j => by rw [Nat.add_comm, List.getElem?_cons_succ]) (by simp) (i := 0) (vs := vs) S2 (by rw [hos, hl]) (fun j u hj hb => by rw [Nat.zero_add] at hb ⊢; exact keep kb j u hj hb)
      (fun j u d hu hd => (ent j u d hu hd).go F2.go) (fun a h => h) ho
    have lo := outs_len ho
    have g0 : (os'.map some ++ E3)[os'.length + 0]? = some (some o) := by
      have := get_app (os'.map some) E3 0
      rw [List.length_map] at this
      rw [this, k3 0 (by omega)]; rfl
    have s0 : (vs.map some ++ (some v :: s'))[os'.length + 0]? = some (some v) := by
      have := get_app (vs.map some) (some v :: s') 0
      rw [List.length_map, hl, ← hos, ← lo] at this
      rw [this]; rfl
    obtain ⟨u, A4, q, S4, m4⟩ := S3.move g0
    rw [s0] at q; cases q
    have st := set_app (os'.map some) E3 0 none
    rw [List.length_map] at st
    rw [st] at S4
    obtain ⟨A5, S5, m5⟩ := SR.init (xs := some v :: vs.map some) (cs := some o :: os'.map some) (by simp [hl, lo, hos]) S4
    exact ⟨A5, S5, F2.sub fun a m => m3 a (m4 a (m5 a m))⟩
  cases hbd : body (os.map some ++ List.replicate m none) with
  | no => rw [hbd] at z; cases z
  | bk e' => rw [hbd] at z; cases z
  | ct e' => rw [hbd] at z; cases z
  | rt o e' =>
    rw [hbd] at z
    dsimp only at z
    cases ho : outs B e' 0 os with
    | none => rw [ho] at z; cases z
    | some os' =>
      rw [ho] at z
      intro v s' H' A' S2 kb F2
      obtain ⟨A2, S3, F3⟩ := fin S2 kb F2 ho
      exact z v H' A2 S3 F3
  | nx e' =>
    rw [hbd] at z
    dsimp only at z
    cases ho : outs B e' 0 os with
    | none => rw [ho] at z; cases z
    | some os' =>
      rw [ho] at z
      intro s' H' A' S2 kb F2
      have S2' : SR G R H' (some V.non :: s') (some (.im .non) :: e') A' := ⟨.so (A := []) (.im .non) S2.sl, S2.nd, S2.dj, S2.ft⟩
      obtain ⟨A2, S3, F3⟩ := fin S2' kb F2 ho
      exact z _ H' A2 S3 F3
  | er x e' =>
    rw [hbd] at z
    dsimp only at z
    cases ho : outs B e' 0 os with
    | none => rw [ho] at z; cases z
    | some os' =>
      rw [ho] at z
      intro c d s' H' A' S2 r kb F2
      have S2' : SR G R H' (some V.non :: s') (some (.im .non) :: e') A' := ⟨.so (A := []) (.im .non) S2.sl, S2.nd, S2.dj, S2.ft⟩
      obtain ⟨A2, S3, F3⟩ := fin S2' kb F2 ho
      -- fin may hold fewer addresses
      obtain ⟨A4, S4, m4⟩ := S3.tail
      obtain ⟨A6, E6, S6, m6, _, _⟩ := SR.outs (s := s') (e := e') 1 (fun j => by rw [Nat.add_comm, List.getElem?_cons_succ]) (fun j => by rw [Nat.add_comm, List.getElem?_cons_succ]) (by simp) (i := 0) (vs := vs) S2' (by rw [hos, hl]) (fun j u hj hb => by rw [Nat.zero_add] at hb ⊢; exact keep kb j u hj hb)
        (fun j u d hu hd => (ent j u d hu hd).go F2.go) (fun a h => h) ho
      obtain ⟨A7, S7, m7⟩ := SR.init (xs := vs.map some) (cs := os'.map some) (by simp [hl, outs_len ho, hos]) S6
      exact z c d H' A7 S7 (r.less fun a h => h.imp (fun m => m6 a (m7 a m)) id) (F2.sub fun a m => m6 a (m7 a m))
theorem def_ok {P : Program} {w : World} {K : PySem.W.Frag} {mg : Str → Option Value} {base : Heap} {x qual : Str} {st : Stmt} {f : Addr} {fd : FuncData} {N ps : List Str} {k n m : Nat} {body : Env → SRes} {G : Cl} {B : List Nat} (F : Fun K x qual st f fd) (S : FnScope N ps (defScope st)) (hn : ps.length = n) (hm : N.length = n + m)
    (hb : ∀ (cdv : Value) (A : Around) (outer : List PySem.Env) (s : Shared) (H : Hp) (E : XK), RmG k (A.deeper (envOfC qual (defScope st) s.heap.objs.size f cdv)) →
      PSs (cxOf (L2.CX P w) P w K mg base N qual (defScope st) f cdv A outer s H E) (defBody st) (tS G (fun c d _ H' => E c d H') B body)) : FnG P w K mg base (k + 1) f fd ps (SpF G n (fDef B m body)) :=
  def_okX hn hm (fun len h => okG F S len h) hb
/-- the same for a def with defaults -/
theorem def_okD {P : Program} {w : World} {K : PySem.W.Frag} {mg : Str → Option Value} {base : Heap} {x qual : Str} {st : Stmt} {f : Addr} {fd : FuncData} {N ps : List Str} {k n m : Nat} {body : Env → SRes} {G : Cl} {B : List Nat} {dvs : List V} {kws : List (Str × V)} (F : FunD K x qual (defArgs st) (defBody st) (defScope st) dvs kws f fd) (S : FnScope N ps (defScope st)) (hn : ps.length = n) (hm : N.length = n + m)
    (hb : ∀ (cdv : Value) (A : Around) (outer : List PySem.Env) (s : Shared) (H : Hp) (E : XK), RmG k (A.deeper (envOfC qual (defScope st) s.heap.objs.size f cdv)) →
      PSs (cxOf (L2.CX P w) P w K mg base N qual (defScope st) f cdv A outer s H E) (defBody st) (tS G (fun c d _ H' => E c d H') B body)) : FnG P w K mg base (k + 1) f fd ps (SpF G n (fDef B m body)) :=
  def_okX hn hm (fun len h => okGD F S len h) hb
end
end PV

set_option Elab.async false
set_option linter.all false
set_option maxRecDepth 100000
set_option maxHeartbeats 4000000
/-! PVj: comprehensions, items and list methods. -/
namespace PV
open PySem L2

section
variable {X : Cx} {W : WX} {G : Cl} {B : List Nat}
/-! ### comprehensions -/
def wipeE (e : Env) : List Nat → Env
  | [] => e
  | v :: vs => (wipeE e vs).set v none
theorem wipeE_len (e : Env) : ∀ vs : List Nat, (wipeE e vs).length = e.length
  | [] => rfl
  | v :: vs => by unfold wipeE; rw [List.length_set, wipeE_len e vs]
theorem SR.wipe1 {R : Addr → Prop} {H : Hp} {s : St} {e : Env} {A : List Addr} (S : SR G R H s e A) (i : Nat) (x : Option V) : ∃ A', SR G R H (s.set i x) (e.set i none) A' ∧ ∀ a ∈ A', a ∈ A := by
  by_cases hi : i < s.length
  · obtain ⟨A1, A2, A3, rfl, q⟩ := SlA.put S.sl hi
    obtain ⟨n1, _, _⟩ := nodup3 S.nd
    exact ⟨A1 ++ ([] ++ A3), S.less (q x none [] (.no .nil)) (by simpa using n1) fun a m => mem3 (by simpa using m), fun a m => mem3 (by simpa using m)⟩
  · have h2 : ¬ i < e.length := by rw [← S.len]; exact hi
    rw [List.set_eq_of_length_le (by omega), List.set_eq_of_length_le (by omega)]
    exact ⟨A, S, fun _ m => m⟩
/-- the slots vs forgotten; their values are what one likes -/
theorem SR.wipes {R : Addr → Prop} {H : Hp} {s : St} {e : Env} {A : List Addr} (S : SR G R H s e A) : ∀ vs : List Nat, ∃ A', SR G R H (wipe s vs) (wipeE e vs) A' ∧ SR G R H s (wipeE e vs) A' ∧ ∀ a ∈ A', a ∈ A
  | [] => ⟨A, S, S, fun _ m => m⟩
  | v :: vs => by
    obtain ⟨A1, S1, S1', m1⟩ := S.wipes vs
    unfold wipe wipeE
    by_cases hv : v < s.length
    · have hw : v < (wipe s vs).length := by rw [wipe_length]; exact hv
      obtain ⟨C1, C2, C3, e1, q⟩ := SlA.put S1'.sl hv
      obtain ⟨E1, E2, E3, e2, q2⟩ := SlA.put S1.sl hw
      obtain ⟨n1, _, _⟩ := nodup3 (e1 ▸ S1'.nd)
      obtain ⟨n2, _, _⟩ := nodup3 (e2 ▸ S1.nd)
      -- the same slots, cell v gone: over s and over the wiped
      have key : ∀ {s s' : St} {e : Env} {L : Addr → Prop} {C : List Addr} {H : Hp} {v : Nat}, SlA G H L s e C → e[v]? = some none → ∀ x, SlA G H L (s.set v x) e C := by
        intro s s' e L C H v r
        induction r generalizing v with
        | nil => intro h x; simp at h
        | no r ih =>
          intro h x
          cases v with
          | zero => exact .no r
          | succ v => exact .no (ih (by simpa using h) x)
        | so h0 r ih =>
          intro h x
          cases v with
          | zero => simp at h
          | succ v => exact .so h0 (ih (by simpa using h) x)
      obtain ⟨A2, S2, m2⟩ := S1.wipe1 v none
      have hn : ((wipeE e vs).set v none)[v]? = some none := by
        rw [List.getElem?_set_self]
        rw [wipeE_len, ← S.len]; exact hv
      refine ⟨A2, S2, ?_, fun a m => m1 a (m2 a m)⟩
      have back : ∀ (us : List Nat) (C : List Addr) (L : Addr → Prop), SlA G H L ((wipe s us).set v none) ((wipeE e vs).set v none) C → (∀ u ∈ us, u ∈ vs) → SlA G H L s ((wipeE e vs).set v none) C := by
        intro us
        induction us with
        | nil =>
          intro C L r _
          have q := key (s' := s) r hn (s[v]?.getD none)
          rw [show ((wipe s []).set v none).set v (s[v]?.getD none) = s by
            unfold wipe
            rw [List.set_set]
            exact set_self (by rw [List.getElem?_eq_getElem hv]; rfl)] at q
          exact q
        | cons u us ih =>
          intro C L r hm
          refine ih C L ?_ fun w hw => hm w (List.mem_cons_of_mem _ hw)
          by_cases huv : u = v
          · have q : (wipe s (u :: us)).set v none = (wipe s us).set v none := by
              show ((wipe s us).set u none).set v none = _
              rw [huv, List.set_set]
            rw [q] at r; exact r
          · have hnu : ((wipeE e vs).set v none)[u]? = some none ∨ ¬ u < s.length := by
              by_cases hul : u < s.length
              · left
                rw [List.getElem?_set_ne (Ne.symm huv)]
                have : ∀ (ws : List Nat), u ∈ ws → (wipeE e ws)[u]? = some none := by
                  intro ws
                  induction ws with
                  | nil => intro h; cases h
                  | cons w ws ih2 =>
                    intro h
                    unfold wipeE
                    by_cases hwu : w = u
                    · subst hwu
                      rw [List.getElem?_set_self]
                      rw [wipeE_len, ← S.len]; exact hul
                    · rw [List.getElem?_set_ne hwu]
                      rcases List.mem_cons.mp h with z | z
                      · exact absurd z.symm hwu
                      · exact ih2 z
                exact this vs (hm u List.mem_cons_self)
              · exact .inr hul
            rcases hnu with hnu | hnu
            · have q := key (s' := s) r hnu ((wipe s us)[u]?.getD none)
              have q2 : ((wipe s (u :: us)).set v none).set u ((wipe s us)[u]?.getD none) = (wipe s us).set v none := by
                show (((wipe s us).set u none).set v none).set u _ = _
                rw [List.set_comm _ _ (Ne.symm huv), List.set_set]
                congr 1
                by_cases hul : u < (wipe s us).length
                · exact set_self (by rw [List.getElem?_eq_getElem hul]; rfl)
                · rw [List.set_eq_of_length_le (by omega)]
              rw [q2] at q; exact q
            · have q : wipe s (u :: us) = wipe s us := by
                show (wipe s us).set u none = _
                rw [List.set_eq_of_length_le (by rw [wipe_length]; omega)]
              rw [q] at r; exact r
      exact S2.less (back vs A2 _ S2.sl fun _ h => h) S2.nd fun _ m => m
    · have h2 : ¬ v < e.length := by rw [← S.len]; exact hv
      rw [List.set_eq_of_length_le (by rw [wipe_length]; omega), List.set_eq_of_length_le (by rw [wipeE_len]; omega)]
      exact ⟨A1, S1, S1', m1⟩
theorem wipeE_get {e : Env} {i : Nat} (hl : i < e.length) : ∀ {vs : List Nat}, i ∈ vs → (wipeE e vs)[i]? = some none := fun {vs} h => by
  induction vs with
  | nil => cases h
  | cons w ws ih =>
    unfold wipeE
    by_cases hw : w = i
    · subst hw
      rw [List.getElem?_set_self (by rw [wipeE_len]; exact hl)]
    · rw [List.getElem?_set_ne hw]
      rcases List.mem_cons.mp h with z | z
      · exact absurd z.symm hw
      · exact ih z
def runLc (vs : List Nat) (t : O → Env → Option Env) (cond : Env → Res Bool) (elt : Env → Res AO) : List D → List O → Env → Option (List O × Env)
  | [], acc, e => some (acc, e)
  | d :: ds, acc, e => match t (.im d) e with
    | none => none
    | some e1 => match cond e1 with
      | .ok true e2 => match elt e2 with
        | .ok a e3 => match pass1 .el a e3 with
          | none => none
          | some (o, e4, _) => if acc.length < sizeLine then runLc vs t cond elt ds (acc ++ [o]) (wipeE e4 vs) else none
        | _ => none
      | .ok false e2 => runLc vs t cond elt ds acc (wipeE e2 vs)
      | _ => none
def fYes : Env → Res Bool := fun e => .ok true e
theorem pts_yes {X : Cx} {W : WX} : PTs X [] (tT G W fYes) := ⟨fun pins s σ H Q I h => pts_nil.run pins s σ H Q I (tT_ok h)⟩
theorem pts_one' {X : Cx} {W : WX} {c : Expr} {f : Env → Res Bool} (h : PT X c (tT G W f)) : PTs X [c] (tT G W f) := pts_one h
abbrev W0 : WX := fun _ _ _ _ => False
/-- how a comprehension's own slots may change -/
def keepW (vs : List Nat) (s s' : St) : Prop := wipe s' vs = wipe s vs
theorem keepW_set {vs : List Nat} {i : Nat} (h : i ∈ vs) (s : St) (x : Option V) : keepW vs s (s.set i x) := by
  unfold keepW
  induction vs with
  | nil => cases h
  | cons v vs ih =>
    unfold wipe
    by_cases hv : v = i
    · subst hv
      apply List.ext_getElem?
      intro j
      by_cases hj : v = j
      · subst hj
        by_cases hl : v < s.length
        · rw [List.getElem?_set_self (by rw [wipe_length]; simpa using hl), List.getElem?_set_self (by rw [wipe_length]; exact hl)]
        · rw [List.getElem?_eq_none (by rw [List.length_set, wipe_length]; simpa using hl), List.getElem?_eq_none (by rw [List.length_set, wipe_length]; omega)]
      · rw [List.getElem?_set_ne hj, List.getElem?_set_ne hj]
        have : ∀ (ws : List Nat), (wipe (s.set v x) ws)[j]? = (wipe s ws)[j]? := by
          intro ws
          induction ws with
          | nil => unfold wipe; rw [List.getElem?_set_ne hj]
          | cons w ws ih2 =>
            unfold wipe
            by_cases hw : w = j
            · subst hw
              by_cases hl : w < s.length
              · rw [List.getElem?_set_self (by rw [wipe_length]; simpa using hl), List.getElem?_set_self (by rw [wipe_length]; exact hl)]
              · rw [List.getElem?_eq_none (by rw [List.length_set, wipe_length]; simpa using hl), List.getElem?_eq_none (by rw [List.length_set, wipe_length]; omega)]
            · rw [List.getElem?_set_ne hw, List.getElem?_set_ne hw, ih2]
        exact this vs
    · rw [ih ((List.mem_cons.mp h).resolve_left (Ne.symm hv))]
theorem tgw_name {vs : List Nat} {i : Nat} (h : i ∈ vs) : TGk G (keepW vs) (gName i) (sName i) := tgk_name fun s x => keepW_set h s _
theorem tgws_nil {vs : List Nat} : TGsk G (keepW vs) gNil sNil := tgks_nil fun _ => rfl
theorem tgws_cons {vs : List Nat} {g : TG} {gs : TGs} {t : O → Env → Option Env} {u : List D → Env → Option Env} (h1 : TGk G (keepW vs) g t) (h2 : TGsk G (keepW vs) gs u) : TGsk G (keepW vs) (gCons g gs) (sCons t u) := tgks_cons (fun a b c (q1 : keepW vs a b) (q2 : keepW vs b c) => (Eq.trans q2 q1 : wipe c vs = wipe a vs)) h1 h2
/-- between two turns of a comprehension; D: the new list -/
structure TurnC (G : Cl) (R : Addr → Prop) (vs : List Nat) (t : O → Env → Option Env) (cond : Env → Res Bool) (elt : Env → Res AO) (s0 : St) (H0 : Hp) (A0 : List Addr) (p : Addr) (fin : List O × Env) (ds : List D) (H : Hp) (e : Env) (acc : List O) (A : List Addr) : Prop where
  S : SR G R H (some (.ref p) :: wipe s0 vs) (some (.ls acc) :: e) A
  F : Fr0 H0 A0 H A
  z : runLc vs t cond elt ds acc e = some fin
  w : ∀ i ∈ vs, i < s0.length → e[i]? = some none
theorem TurnC.step {R : Addr → Prop} {vs : List Nat} {t : O → Env → Option Env} {cond : Env → Res Bool} {elt : Env → Res AO} {s0 : St} {H0 H : Hp} {A0 A : List Addr} {p : Addr} {fin : List O × Env} {d : D} {ds : List D} {e : Env} {acc : List O} {g : TG} {v : V}
    (T : TurnC G R vs t cond elt s0 H0 A0 p fin (d :: ds) H e acc A) (hg : TGk G (keepW vs) g t) (im : Im G H (fun a => a ∈ A ∨ R a) v d) (P : Hp → Prop) (hP : ∀ H' e' acc' A', TurnC G R vs t cond elt s0 H0 A0 p fin ds H' e' acc' A' → Fr0 H A H' A' → P H') :
    g v (wipe s0 vs) H fun σ2 H2 => wipe σ2 vs = wipe s0 vs ∧ tT G W0 cond σ2 H2 fun b H3 =>
      if b = true then tX G W0 elt σ2 H3 fun y H4 => ∃ accv, H4 p = some (.lst accv) ∧ accv.length < sizeLine ∧ P (upd H4 p (.lst (accv ++ [y]))) else P H3 := by
  have wipe2 : ∀ (us : List Nat) (s : St), wipe (wipe s us) us = wipe s us := by
    intro us s
    apply List.ext_getElem?
    intro j
    have key : ∀ (ws : List Nat) (r : St), (wipe r ws)[j]? = if j ∈ ws ∧ j < r.length then some none else r[j]? := by
      intro ws
      induction ws with
      | nil => intro r; unfold wipe; simp
      | cons w ws ih =>
        intro r
        unfold wipe
        by_cases hw : w = j
        · subst hw
          by_cases hl : w < r.length
          · rw [List.getElem?_set_self (by rw [wipe_length]; exact hl), if_pos ⟨List.mem_cons_self, hl⟩]
          · rw [List.getElem?_eq_none (by rw [List.length_set, wipe_length]; omega), if_neg (fun z => hl z.2), List.getElem?_eq_none (by omega)]
        · rw [List.getElem?_set_ne hw, ih]
          by_cases hm : j ∈ ws
          · simp [hm]
          · have : j ∉ w :: ws := fun z => by
              rcases List.mem_cons.mp z with z | z
              · exact hw z.symm
              · exact hm z
            simp [hm, this]
    rw [key, key, wipe_length]
    split <;> simp_all
  have lenW : ∀ {σ2 : St}, wipe σ2 vs = wipe s0 vs → σ2.length = s0.length := fun {σ2} h => by
    have := congrArg List.length h
    rwa [wipe_length, wipe_length] at this
  have z := T.z
  unfold runLc at z
  cases ht : t (.im d) e with
  | none => rw [ht] at z; cases z
  | some e1 =>
    rw [ht] at z
    dsimp only at z
    obtain ⟨AD, AE, rfl, rD, S1⟩ := SR.frame (xs := [some (V.ref p)]) (cs := [some (.ls acc)]) rfl T.S
    obtain ⟨nD, nE, nDE⟩ := List.nodup_append.mp T.S.nd
    refine hg _ _ H AE v _ e e1 _ ⟨.so (A := []) (.im (im.go (Go.less fun a h => ?_))) S1.sl, S1.nd, S1.dj, S1.ft⟩ ht fun σ2 H2 A2 S2 kw F2 => ?_
    · rcases h with h | h | h
      · exact .inl (List.mem_append_right _ h)
      · exact .inr h
      · exact .inl (List.mem_append_left _ h)
    have kw' : wipe σ2 vs = wipe s0 vs := by
      have q : wipe σ2 vs = wipe (wipe s0 vs) vs := kw
      rw [q, wipe2]
    refine ⟨kw', _, e1, A2, S2, ?_⟩
    cases hc : cond e1 with
    | no => rw [hc] at z; cases z
    | er x e' => rw [hc] at z; cases z
    | ok b e2 =>
      rw [hc] at z
      intro H3 A3 S3 F3
      cases b with
      | false =>
        rw [if_neg Bool.false_ne_true]
        dsimp only at z
        obtain ⟨A4, S4, _, m4⟩ := S3.wipes vs
        rw [kw'] at S4
        have F5 : Fr0 H AE H3 A4 := (F2.trans F3).sub m4
        obtain ⟨S6, F6⟩ := SR.unframe rD nD (fun a m => T.S.dj a (List.mem_append_left _ m)) S4 (fun a m z => nDE a z a m rfl) (fun a m => T.S.dj a (List.mem_append_right _ m)) F5
        exact hP H3 _ acc _ ⟨S6, T.F.trans F6, z, fun i hi hl => wipeE_get (by rw [← S3.len, lenW kw']; exact hl) hi⟩ F6
      | true =>
        rw [if_pos rfl]
        dsimp only at z
        refine ⟨_, e2, A3, S3, ?_⟩
        cases hx : elt e2 with
        | no => rw [hx] at z; cases z
        | er x e' => rw [hx] at z; cases z
        | ok a e3 =>
          rw [hx] at z
          dsimp only at z
          intro y H4 A4 S4 ft4 F4
          cases hp : pass1 .el a e3 with
          | none => rw [hp] at z; cases z
          | some q =>
            obtain ⟨o, e4, w⟩ := q
            rw [hp] at z
            dsimp only at z
            obtain ⟨A5, S5, m5⟩ := SR.pass1 S4 ft4 hp
            have F5 : Fr0 H AE H4 A5 := ((F2.trans F3).trans F4).sub m5
            obtain ⟨S6, F6⟩ := SR.unframe rD nD (fun a m => T.S.dj a (List.mem_append_left _ m)) S5 (fun a m z => nDE a z a m rfl) (fun a m => T.S.dj a (List.mem_append_right _ m)) F5
            have S6' : SR G R H4 (some (.ref p) :: some y :: σ2) (some (.ls acc) :: some o :: e4) (AD ++ A5) := S6
            -- the new list as it stands
            have hD : ∃ accv, H4 p = some (.lst accv) ∧ accv.length = acc.length := by
              have sl := S6'.sl
              generalize AD ++ A5 = AA at sl
              cases sl with
              | so h0 _ =>
                cases h0 with
                | ls h1 h2 => exact ⟨_, h1, h2.length⟩
            obtain ⟨accv, hD, lD⟩ := hD
            by_cases hz : acc.length < sizeLine
            · rw [if_pos hz] at z
              refine ⟨accv, hD, by omega, ?_⟩
              -- y on top
              obtain ⟨u, A7, q7, S7, m7⟩ := SR.move (i := 1) (o := o) S6' rfl
              simp at q7; subst q7
              have S7' : SR G R H4 ([y].map some ++ (some (.ref p) :: some y :: σ2)) ([o].map some ++ (some (.ls acc) :: none :: e4)) A7 := S7
              obtain ⟨A8, S8, F8⟩ := SR.write (ts' := []) (tos' := []) (xs' := accv ++ [y]) (os' := acc ++ [o]) (exv := []) (exd := []) (l := accv.zip acc ++ [(y, o)]) S7' (i := 0) rfl rfl hD rfl .nil
                (by simpa using List.perm_append_comm (l₁ := [(y, o)]) (l₂ := accv.zip acc)) (by rw [List.zip_append lD]; simp) rfl (by simp [lD])
              have S8' : SR G R (upd H4 p (.lst (accv ++ [y]))) (some (.ref p) :: ([some y] ++ σ2)) (some (.ls (acc ++ [o])) :: ([none] ++ e4)) A8 := S8
              obtain ⟨A9, S9, m9⟩ := SR.under rfl S8'
              obtain ⟨AD', AE', e9, rD', S10⟩ := SR.frame (xs := [some (V.ref p)]) (cs := [some (.ls (acc ++ [o]))]) rfl S9
              subst e9
              obtain ⟨nD', nE', nDE'⟩ := List.nodup_append.mp S9.nd
              obtain ⟨A11, S11, _, m11⟩ := S10.wipes vs
              rw [kw'] at S11
              obtain ⟨S12, F12⟩ := SR.unframe rD' nD' (fun a m => S9.dj a (List.mem_append_left _ m)) S11 (fun a m z => nDE' a z a m rfl) (fun a m => S9.dj a (List.mem_append_right _ m)) (Fr.less (q := false) m11)
              have Fall : Fr0 H (AD ++ AE) (upd H4 p (.lst (accv ++ [y]))) (AD' ++ A11) := F6.trans ((Fr.less (q := false) m7).trans (F8.trans ((Fr.less (q := false) m9).trans F12)))
              exact hP _ _ _ _ ⟨S12, T.F.trans Fall, z, fun i hi hl => wipeE_get (by rw [← S10.len, lenW kw']; exact hl) hi⟩ Fall
            · rw [if_neg hz] at z; cases z
def fLcOn (sq : O → Option (List D)) (vs : List Nat) (t : O → Env → Option Env) (cond : Env → Res Bool) (f elt : Env → Res AO) : Env → Res AO := fun e => (f e).bind fun a e1 => match pass1 .im a e1 with
  | none => .no
  | some (o, e2, _) => match sq o with
    | none => .no
    | some ds => match runLc vs t cond elt ds [] (wipeE e2 vs) with
      | none => .no
      | some (acc, e3) => .ok (.v (.ls acc)) e3
def fLcR (rg : List O → Option (Int × Nat)) (vs : List Nat) (t : O → Env → Option Env) (cond : Env → Res Bool) (g : Env → Res (List AO)) (elt : Env → Res AO) : Env → Res AO := fun e => (g e).bind fun as e1 => match gets e1 as with
  | none => .no
  | some os => match rg os with
    | none => .no
    | some (lo, n) => match runLc vs t cond elt (rngD lo n) [] (wipeE e1 vs) with
      | none => .no
      | some (acc, e3) => .ok (.v (.ls acc)) e3
/-- the start: an empty list at p -/
theorem TurnC.start {R : Addr → Prop} {vs : List Nat} {t : O → Env → Option Env} {cond : Env → Res Bool} {elt : Env → Res AO} {s : St} {H : Hp} {A : List Addr} {e : Env} {p : Addr} {fin : List O × Env} {ds : List D} (S : SR G R H s e A) (hp : H p = none) (z : runLc vs t cond elt ds [] (wipeE e vs) = some fin) :
    ∃ A', TurnC G R vs t cond elt s H A p fin ds (upd H p (.lst [])) (wipeE e vs) [] A' := by
  obtain ⟨A1, S1, _, m1⟩ := S.wipes vs
  have S1' : SR G R H (([] : List V).map some ++ wipe s vs) (([] : List O).map some ++ wipeE e vs) A1 := S1
  obtain ⟨S2, F2⟩ := SR.newl (q := false) S1' rfl hp
  exact ⟨_, S2, (Fr.less (q := false) m1).trans F2, z, fun i hi hl => wipeE_get (by rw [← S.len]; exact hl) hi⟩
/-- the end -/
theorem TurnC.done {R : Addr → Prop} {vs : List Nat} {t : O → Env → Option Env} {cond : Env → Res Bool} {elt : Env → Res AO} {s : St} {H0 H : Hp} {A0 A : List Addr} {e : Env} {acc : List O} {p : Addr} {fin : List O × Env} (T : TurnC G R vs t cond elt s H0 A0 p fin [] H e acc A) :
    SR G R H (some (.ref p) :: s) (some (.ls fin.1) :: fin.2) A := by
  have hw := T.w
  have z := T.z
  simp [runLc] at z
  subst z
  have key : ∀ {s : St} {e : Env} {L : Addr → Prop} {C : List Addr} {H : Hp} {v : Nat}, SlA G H L s e C → e[v]? = some none → ∀ x, SlA G H L (s.set v x) e C := by
    intro s e L C H v r
    induction r generalizing v with
    | nil => intro h x; simp at h
    | no r ih =>
      intro h x
      cases v with
      | zero => exact .no r
      | succ v => exact .no (ih (by simpa using h) x)
    | so h0 r ih =>
      intro h x
      cases v with
      | zero => simp at h
      | succ v => exact .so h0 (ih (by simpa using h) x)
  have back : ∀ (us : List Nat) (L : Addr → Prop) (C : List Addr), (∀ u ∈ us, u ∈ vs) → SlA G H L (some (.ref p) :: wipe s us) (some (.ls acc) :: e) C → SlA G H L (some (.ref p) :: s) (some (.ls acc) :: e) C := by
    intro us
    induction us with
    | nil => intro L C _ r; exact r
    | cons u us ih =>
      intro L C hm r
      refine ih L C (fun w hw => hm w (List.mem_cons_of_mem _ hw)) ?_
      by_cases hu : u < s.length
      · have q := key (v := u + 1) r (by simpa using hw u (hm u List.mem_cons_self) hu) ((wipe s us)[u]?.getD none)
        have q2 : (some (V.ref p) :: wipe s (u :: us)).set (u + 1) ((wipe s us)[u]?.getD none) = some (.ref p) :: wipe s us := by
          show some (V.ref p) :: ((wipe s us).set u none).set u _ = _
          rw [List.set_set]
          congr 1
          exact set_self (by rw [List.getElem?_eq_getElem (by rw [wipe_length]; exact hu)]; rfl)
        rw [q2] at q; exact q
      · have q : wipe s (u :: us) = wipe s us := by
          show (wipe s us).set u none = _
          rw [List.set_eq_of_length_le (by rw [wipe_length]; omega)]
        rw [q] at r; exact r
  exact T.S.less (back vs _ _ (fun _ h => h) T.S.sl) T.S.nd fun _ m => m
/-- [x for t in xs if c], xs a list | a tuple -/
theorem run_lc {f elt : Env → Res AO} {vs : List Nat} {t : O → Env → Option Env} {cond : Env → Res Bool} {g : TG} {s : St} {H : Hp} {Q : VK} (hg : TGk G (keepW vs) g t) (hK : X.K = G.K) (h : tX G W (fLcOn itL vs t cond f elt) s H Q) :
    tLc (iList X.K (tX G W f)) g (tT G W0 cond) (tX G W0 elt) vs s H Q := by
  obtain ⟨R, e, A, S, z⟩ := h
  refine ⟨R, e, A, S, ?_⟩
  unfold fLcOn at z
  cases hf : f e with
  | no => rw [hf] at z; cases z
  | er x e' => rw [hf] at z; exact z
  | ok a e1 =>
    rw [hf] at z
    intro v H1 A1 S1 ft F1
    dsimp only [Res.bind] at z
    cases hq : pass1 .im a e1 with
    | none => rw [hq] at z; cases z
    | some r =>
      obtain ⟨o, e2, w⟩ := r
      rw [hq] at z
      dsimp only at z
      cases hd : itL o with
      | none => rw [hd] at z; cases z
      | some ds =>
        rw [hd] at z
        dsimp only at z
        cases hr : runLc vs t cond elt ds [] (wipeE e2 vs) with
        | none => rw [hr] at z; cases z
        | some fin =>
          rw [hr] at z
          dsimp only at z
          obtain ⟨A2, S2, m⟩ := SR.pass1 S1 ft hq
          obtain rfl : o = .im (.lst ds) := by
            unfold itL at hd
            split at hd
            · cases hd; rfl
            · cases hd
          have sl := S2.sl
          obtain ⟨A3, S3, m3⟩ := S2.tail
          cases sl with
          | so h0 _ =>
            cases h0 with
            | im h0 =>
              cases h0 with
              | @lst a vl _ l0 im =>
                have l0 := l0.go (Go.less (L' := fun a => a ∈ A3 ∨ R a) fun a z => z.imp (m3 a) id)
                have im := im.go (Go.less (L' := fun a => a ∈ A3 ∨ R a) fun a z => z.imp (m3 a) id)
                refine ⟨a, rfl, ⟨vl, by rw [hK]; exact l0.sq⟩, fun D hD => ?_⟩
                obtain ⟨A4, T0⟩ := TurnC.start (t := t) (cond := cond) (elt := elt) S3 hD hr
                refine lc_list (xs := vl) (fun i H' => ∃ e' acc' A', TurnC G R vs t cond elt s H1 A3 D fin (ds.drop i) H' e' acc' A' ∧ LsAt G H' (fun a => a ∈ A' ∨ R a) a vl ∧ ImA G H' (fun a => a ∈ A' ∨ R a) vl ds) ⟨_, _, A4, T0, l0.go T0.F.go, im.go T0.F.go⟩ ?_ ?_ ?_
                · rintro i H' _ ⟨e', acc', A', T, l', im'⟩
                  rw [hK]; exact l'.sq
                · rintro i x H' hx ⟨e', acc', A', T, l', im'⟩
                  obtain ⟨d, hd, ix⟩ := im'.getV hx
                  have hdr : ds.drop i = d :: ds.drop (i + 1) := by
                    rw [List.drop_eq_getElem_cons (lt_of_get hd)]
                    congr 1
                    rw [List.getElem?_eq_getElem (lt_of_get hd)] at hd
                    exact Option.some.inj hd
                  rw [hdr] at T
                  exact T.step hg ix _ fun H2 e2 acc2 A2 T2 F2 => ⟨e2, acc2, A2, T2, l'.go F2.go, im'.go F2.go⟩
                · rintro H' ⟨e', acc', A', T, l', im'⟩
                  rw [im.length, List.drop_length] at T
                  exact z _ H' A' T.done trivial (((F1.sub m).sub m3).trans T.F)
theorem run_lcT {f elt : Env → Res AO} {vs : List Nat} {t : O → Env → Option Env} {cond : Env → Res Bool} {g : TG} {s : St} {H : Hp} {Q : VK} (hg : TGk G (keepW vs) g t) (hK : X.K = G.K) (h : tX G W (fLcOn itT vs t cond f elt) s H Q) :
    tLc (iTup X.K (tX G W f)) g (tT G W0 cond) (tX G W0 elt) vs s H Q := by
  obtain ⟨R, e, A, S, z⟩ := h
  refine ⟨R, e, A, S, ?_⟩
  unfold fLcOn at z
  cases hf : f e with
  | no => rw [hf] at z; cases z
  | er x e' => rw [hf] at z; exact z
  | ok a e1 =>
    rw [hf] at z
    intro v H1 A1 S1 ft F1
    dsimp only [Res.bind] at z
    cases hq : pass1 .im a e1 with
    | none => rw [hq] at z; cases z
    | some r =>
      obtain ⟨o, e2, w⟩ := r
      rw [hq] at z
      dsimp only at z
      cases hd : itT o with
      | none => rw [hd] at z; cases z
      | some ds =>
        rw [hd] at z
        dsimp only at z
        cases hr : runLc vs t cond elt ds [] (wipeE e2 vs) with
        | none => rw [hr] at z; cases z
        | some fin =>
          rw [hr] at z
          dsimp only at z
          obtain ⟨A2, S2, m⟩ := SR.pass1 S1 ft hq
          obtain rfl : o = .im (.tup ds) := by
            unfold itT at hd
            split at hd
            · cases hd; rfl
            · cases hd
          have sl := S2.sl
          obtain ⟨A3, S3, m3⟩ := S2.tail
          cases sl with
          | so h0 _ =>
            cases h0 with
            | im h0 =>
              cases h0 with
              | @tup a vl _ l0 im =>
                have l0 := l0.go (Go.less (L' := fun a => a ∈ A3 ∨ R a) fun a z => z.imp (m3 a) id)
                have im := im.go (Go.less (L' := fun a => a ∈ A3 ∨ R a) fun a z => z.imp (m3 a) id)
                refine ⟨a, rfl, ⟨vl, by rw [hK]; exact l0.sq⟩, fun D hD => ?_⟩
                obtain ⟨A4, T0⟩ := TurnC.start (t := t) (cond := cond) (elt := elt) S3 hD hr
                refine lc_tup (xs := vl) (fun i H' => ∃ e' acc' A', TurnC G R vs t cond elt s H1 A3 D fin (ds.drop i) H' e' acc' A' ∧ TpAt G H' (fun a => a ∈ A' ∨ R a) a vl ∧ ImA G H' (fun a => a ∈ A' ∨ R a) vl ds) ⟨_, _, A4, T0, l0.go T0.F.go, im.go T0.F.go⟩ ?_ ?_ ?_
                · rintro i H' _ ⟨e', acc', A', T, l', im'⟩
                  rw [hK]; exact l'.sq
                · rintro i x H' hx ⟨e', acc', A', T, l', im'⟩
                  obtain ⟨d, hd, ix⟩ := im'.getV hx
                  have hdr : ds.drop i = d :: ds.drop (i + 1) := by
                    rw [List.drop_eq_getElem_cons (lt_of_get hd)]
                    congr 1
                    rw [List.getElem?_eq_getElem (lt_of_get hd)] at hd
                    exact Option.some.inj hd
                  rw [hdr] at T
                  exact T.step hg ix _ fun H2 e2 acc2 A2 T2 F2 => ⟨e2, acc2, A2, T2, l'.go F2.go, im'.go F2.go⟩
                · rintro H' ⟨e', acc', A', T, l', im'⟩
                  rw [im.length, List.drop_length] at T
                  exact z _ H' A' T.done trivial (((F1.sub m).sub m3).trans T.F)
theorem lc_rng_end {R : Addr → Prop} {vs : List Nat} {t : O → Env → Option Env} {cond : Env → Res Bool} {elt : Env → Res AO} {g : TG} {s : St} {H1 : Hp} {A3 : List Addr} {e2 : Env} {lo : Int} {n : Nat} {fin : List O × Env} {Q : VK} {D : Addr} (hg : TGk G (keepW vs) g t) (S3 : SR G R H1 s e2 A3) (hD : H1 D = none) (hr : runLc vs t cond elt (rngD lo n) [] (wipeE e2 vs) = some fin)
    (z : ∀ v H' A', SR G R H' (some v :: s) (some (.ls fin.1) :: fin.2) A' → Fr0 H1 A3 H' A' → Q v H') :
    ∃ W : Nat → Nat → Hp → Prop, (∃ m, W 0 m (upd H1 D (.lst []))) ∧ ∀ i m H, W i m H →
      ((Itr lo n).stop i H ∧ Q (.ref D) H) ∨ ((Itr lo n).go i H ∧ ∃ Nx : Hp → Prop, (∀ H', Nx H' → ∃ m', m' < m ∧ W (i + 1) m' H') ∧ ∀ x H', (Itr lo n).yld i H x H' → g x (wipe s vs) H' fun σ2 H2 => wipe σ2 vs = wipe s vs ∧ tT G W0 cond σ2 H2 fun b H3 =>
        if b = true then tX G W0 elt σ2 H3 fun y H4 => ∃ acc, H4 D = some (.lst acc) ∧ acc.length < sizeLine ∧ Nx (upd H4 D (.lst (acc ++ [y]))) else Nx H3) := by
  obtain ⟨A4, T0⟩ := TurnC.start (t := t) (cond := cond) (elt := elt) S3 hD hr
  refine lc_range (fun i H' => ∃ e' acc' A', TurnC G R vs t cond elt s H1 A3 D fin ((rngD lo n).drop i) H' e' acc' A') ⟨_, _, A4, T0⟩ ?_ ?_
  · rintro i H' hi ⟨e', acc', A', T⟩
    rw [rngD_drop hi] at T
    exact T.step hg (.int _) _ fun H2 e2 acc2 A2 T2 F2 => ⟨e2, acc2, A2, T2⟩
  · rintro H' ⟨e', acc', A', T⟩
    have hn : (rngD lo n).length = n := by simp [rngD]
    have hd : (rngD lo n).drop n = [] := by
      have := List.drop_length (l := rngD lo n)
      rw [hn] at this
      exact this
    rw [hd] at T
    exact z _ H' A' T.done T.F
theorem run_lcR1 {g : Env → Res (List AO)} {elt : Env → Res AO} {vs : List Nat} {t : O → Env → Option Env} {cond : Env → Res Bool} {gt : TG} {s : St} {H : Hp} {Q : VK} (hg : TGk G (keepW vs) gt t) (h : tX G W (fLcR rng1 vs t cond g elt) s H Q) :
    tLc (iRng1 (tL G W g)) gt (tT G W0 cond) (tX G W0 elt) vs s H Q := by
  obtain ⟨R, e, A, S, z⟩ := h
  refine ⟨R, e, A, S, ?_⟩
  unfold fLcR at z
  cases hf : g e with
  | no => rw [hf] at z; cases z
  | er x e' => rw [hf] at z; exact z
  | ok as e1 =>
    rw [hf] at z
    intro us H1 A1 S1 hl ft F1
    dsimp only [Res.bind] at z
    cases hq : gets e1 as with
    | none => rw [hq] at z; cases z
    | some os =>
      rw [hq] at z
      dsimp only at z
      cases hr : rng1 os with
      | none => rw [hr] at z; cases z
      | some q =>
        obtain ⟨lo, n⟩ := q
        rw [hr] at z
        dsimp only at z
        obtain ⟨j, rfl, hj, e2⟩ := rng1_ok hr
        cases e2
        cases hx : runLc vs t cond elt (rngD 0 j.toNat) [] (wipeE e1 vs) with
        | none => rw [hx] at z; cases z
        | some fin =>
          rw [hx] at z
          dsimp only at z
          obtain ⟨C, ow⟩ := gets_ow (R := R) S1.sl hl ft hq
          obtain ⟨A2, S2, m⟩ := SR.drop (by simpa using hl) S1
          cases ow with
          | cons h0 hr =>
            cases hr
            cases h0 with
            | im h0 =>
              cases h0
              exact ⟨j, rfl, (in62_ok hj).1, (in62_ok hj).2, fun D hD => lc_rng_end hg S2 hD hx fun v H' A' S' F' => z v H' A' S' trivial ((F1.sub m).trans F')⟩
theorem run_lcR2 {g : Env → Res (List AO)} {elt : Env → Res AO} {vs : List Nat} {t : O → Env → Option Env} {cond : Env → Res Bool} {gt : TG} {s : St} {H : Hp} {Q : VK} (hg : TGk G (keepW vs) gt t) (h : tX G W (fLcR rng2 vs t cond g elt) s H Q) :
    tLc (iRng2 (tL G W g)) gt (tT G W0 cond) (tX G W0 elt) vs s H Q := by
  obtain ⟨R, e, A, S, z⟩ := h
  refine ⟨R, e, A, S, ?_⟩
  unfold fLcR at z
  cases hf : g e with
  | no => rw [hf] at z; cases z
  | er x e' => rw [hf] at z; exact z
  | ok as e1 =>
    rw [hf] at z
    intro us H1 A1 S1 hl ft F1
    dsimp only [Res.bind] at z
    cases hq : gets e1 as with
    | none => rw [hq] at z; cases z
    | some os =>
      rw [hq] at z
      dsimp only at z
      cases hr : rng2 os with
      | none => rw [hr] at z; cases z
      | some q =>
        obtain ⟨lo, n⟩ := q
        rw [hr] at z
        dsimp only at z
        obtain ⟨i, j, rfl, hi, hj, e2⟩ := rng2_ok hr
        cases hx : runLc vs t cond elt (rngD lo n) [] (wipeE e1 vs) with
        | none => rw [hx] at z; cases z
        | some fin =>
          rw [hx] at z
          dsimp only at z
          cases e2
          obtain ⟨C, ow⟩ := gets_ow (R := R) S1.sl hl ft hq
          obtain ⟨A2, S2, m⟩ := SR.drop (by simpa using hl) S1
          cases ow with
          | cons h0 hr =>
            cases hr with
            | cons h1 hr =>
              cases hr
              cases h0 with
              | im h0 =>
                cases h0
                cases h1 with
                | im h1 =>
                  cases h1
                  exact ⟨_, _, rfl, ⟨(in62_ok hi).1, (in62_ok hi).2, (in62_ok hj).1, (in62_ok hj).2⟩, fun D hD => lc_rng_end hg S2 hD hx fun v H' A' S' F' => z v H' A' S' trivial ((F1.sub m).trans F')⟩
end
end PV

set_option Elab.async false
set_option linter.all false
set_option maxRecDepth 100000
set_option maxHeartbeats 4000000
/-! PVk: the operations. -/
namespace PV
open PySem L2

section
variable {X : Cx} {W : WX} {G : Cl} {B : List Nat}
theorem tl_nil {s : St} {H : Hp} {P : List V → Hp → Prop} (h : tL G W fNil s H P) : P [] H := by
  obtain ⟨R, e, A, S, z⟩ := h
  exact z [] H A S rfl (fun j a v h => by simp at h) Fr.refl
theorem tl_cons {f : Env → Res AO} {g : Env → Res (List AO)} {s : St} {H : Hp} {P : List V → Hp → Prop} (h : tL G W (fCons f g) s H P) : tX G W f s H fun v H1 => tL G W g s H1 fun vs H2 => P (v :: vs) H2 := by
  obtain ⟨R, e, A, S, k⟩ := h
  refine ⟨R, e, A, S, ?_⟩
  unfold fCons at k
  cases hf : f e with
  | no => rw [hf] at k; cases k
  | er x e' => rw [hf] at k; exact k
  | ok a e1 =>
    rw [hf] at k
    intro v H1 A1 S1 ft F1
    obtain ⟨C, E, hA, r1, S2⟩ := SR.frame (xs := [some v]) (cs := [a.cell]) rfl S1
    subst hA
    obtain ⟨nB, nC, nBC⟩ := List.nodup_append.mp S1.nd
    refine ⟨_, e1, E, S2, ?_⟩
    dsimp only [Res.bind] at k
    cases hg : g e1 with
    | no => rw [hg] at k; cases k
    | er x e' =>
      rw [hg] at k
      exact erE.sub k (fun a h => .inl h) (F1.sub fun a m => List.mem_append_right _ m)
    | ok as e2 =>
      rw [hg] at k
      intro vs H2 A2 S3 hl fts F2
      obtain ⟨S4, F4⟩ := SR.unframe r1 nB (fun a m => S1.dj a (List.mem_append_left _ m)) S3 (fun a m z => nBC a z a m rfl) (fun a m => S1.dj a (List.mem_append_right _ m)) F2
      refine k (v :: vs) H2 (C ++ A2) S4 (by simp [hl]) (fun j b w hj hw => ?_) (F1.trans F4)
      cases j with
      | zero => simp at hj hw; subst hj; subst hw; exact ft
      | succ j => exact fts j b w (by simpa using hj) (by simpa using hw)

/-! ### numbers -/
def oI2 (c : Int → Int → Bool) (g : Int → Int → D) : List O → Option O
  | [.im (.int i), .im (.int j)] => if c i j then some (.im (g i j)) else none
  | _ => none
theorem oI2_ok {c : Int → Int → Bool} {g : Int → Int → D} {os : List O} {o : O} (h : oI2 c g os = some o) : ∃ i j, os = [.im (.int i), .im (.int j)] ∧ c i j = true ∧ o = .im (g i j) := by
  unfold oI2 at h
  split at h
  · rename_i i j
    split at h
    · rename_i hc; cases h; exact ⟨i, j, rfl, hc, rfl⟩
    · cases h
  · cases h
theorem ow_int2 {H : Hp} {L : Addr → Prop} {vs : List V} {i j : Int} {C : List Addr} (r : OwA G H L vs [.im (.int i), .im (.int j)] C) : vs = [.int i, .int j] := by
  cases r with
  | cons h r => cases r with
    | cons h2 r => cases r; cases h with
      | im h => cases h; cases h2 with
        | im h2 => cases h2; rfl
theorem pr_I2 {C : Int → Int → Prop} {gV : Int → Int → V} {c : Int → Int → Bool} {g : Int → Int → D} (hc : ∀ i j, c i j = true → C i j) (hg : ∀ i j H L, Im G H L (gV i j) (g i j)) : Prim G (r2L (rI C gV)) (oI2 c g) :=
  prim_flat fun L E H vs os o Q r h => by
    obtain ⟨i, j, rfl, h1, rfl⟩ := oI2_ok h
    have e := ow_int2 r
    subst e
    exact ⟨gV i j, g i j, rfl, fun L' _ => hg i j H L', fun q => ⟨i, j, rfl, rfl, hc i j h1, q⟩⟩
theorem pr_I20 {gV : Int → Int → V} {g : Int → Int → D} (hg : ∀ i j H L, Im G H L (gV i j) (g i j)) : Prim G (r2L (rI0 gV)) (oI2 (fun _ _ => true) g) :=
  prim_flat fun L E H vs os o Q r h => by
    obtain ⟨i, j, rfl, h1, rfl⟩ := oI2_ok h
    have e := ow_int2 r
    subst e
    exact ⟨gV i j, g i j, rfl, fun L' _ => hg i j H L', fun q => ⟨i, j, rfl, rfl, q⟩⟩
abbrev yes2 : Int → Int → Bool := fun _ _ => true
def cMul (i j : Int) : Bool := decide (i.natAbs.log2 + j.natAbs.log2 < 1000000)
def cDiv (_ j : Int) : Bool := decide (0 < j) && decide (j.natAbs.log2 < 9000)
def cMod (_ j : Int) : Bool := decide (0 < j)
def cPow (i j : Int) : Bool := decide (0 ≤ j) && decide ((Builtin.Int.intBits i : Int) * j ≤ 2 ^ 27)
abbrev oAdd := oI2 yes2 fun i j => .int (i + j)
abbrev oSub := oI2 yes2 fun i j => .int (i - j)
abbrev oMul := oI2 cMul fun i j => .int (i * j)
abbrev oDiv := oI2 cDiv fun i j => .int (i / j)
abbrev oMod := oI2 cMod fun i j => .int (i % j)
abbrev oPow := oI2 cPow fun i j => .int (i ^ j.toNat)
abbrev oLt := oI2 yes2 fun i j => .bl (decide (i < j))
abbrev oLe := oI2 yes2 fun i j => .bl (decide (i ≤ j))
abbrev oGt := oI2 yes2 fun i j => .bl (decide (j < i))
abbrev oGe := oI2 yes2 fun i j => .bl (decide (j ≤ i))
theorem op_powW : OpR X (binaryOp .Pow) (rI (fun i j => 0 ≤ j ∧ (Builtin.Int.intBits i : Int) * j ≤ 2 ^ 27) fun i j => .int (i ^ j.toNat)) := by
  intro pins s σ H x y v u Q I rx ry h
  obtain ⟨i, j, rfl, rfl, ⟨h1, h2⟩, q⟩ := h
  obtain ⟨t, rfl⟩ := rx
  obtain ⟨t', rfl⟩ := ry
  exact PyProof.Rows.pow_int h1 h2 ⟨.int _, H, I.tok _, ⟨_, rfl⟩, q⟩
section
variable {a b : Expr} {f g : Env → Res AO} {pos : Pos}
theorem x_add (ha : PE X a (tX G W f)) (hb : PE X b (tX G W g)) : PE X (.BinOp a .Add b pos) (tX G W (f2 oAdd f g)) := px_bin op_add (pr_I20 fun _ _ _ _ => .int _) ha hb
theorem x_sub (ha : PE X a (tX G W f)) (hb : PE X b (tX G W g)) : PE X (.BinOp a .Sub b pos) (tX G W (f2 oSub f g)) := px_bin op_sub (pr_I20 fun _ _ _ _ => .int _) ha hb
theorem x_mul (ha : PE X a (tX G W f)) (hb : PE X b (tX G W g)) : PE X (.BinOp a .Mult b pos) (tX G W (f2 oMul f g)) := px_bin op_mulW (pr_I2 (fun i j h => by
  have h' : cMul i j = true := h
  unfold cMul at h'
  exact (of_decide_eq_true h' : i.natAbs.log2 + j.natAbs.log2 < 1000000)) fun _ _ _ _ => .int _) ha hb
theorem x_div (ha : PE X a (tX G W f)) (hb : PE X b (tX G W g)) : PE X (.BinOp a .FloorDiv b pos) (tX G W (f2 oDiv f g)) := px_bin op_fdivW (pr_I2 (fun i j h => by
  have h' : cDiv i j = true := h
  unfold cDiv at h'
  simp only [Bool.and_eq_true, decide_eq_true_eq] at h'
  exact h') fun _ _ _ _ => .int _) ha hb
theorem x_mod (ha : PE X a (tX G W f)) (hb : PE X b (tX G W g)) : PE X (.BinOp a .Mod b pos) (tX G W (f2 oMod f g)) := px_bin op_mod (pr_I2 (fun _ _ h => of_decide_eq_true h) fun _ _ _ _ => .int _) ha hb
theorem x_pow (ha : PE X a (tX G W f)) (hb : PE X b (tX G W g)) : PE X (.BinOp a .Pow b pos) (tX G W (f2 oPow f g)) := px_bin op_powW (pr_I2 (fun i j h => by
  have h' : cPow i j = true := h
  unfold cPow at h'
  simp only [Bool.and_eq_true, decide_eq_true_eq] at h'
  exact h') fun _ _ _ _ => .int _) ha hb
theorem x_lt (ha : PE X a (tX G W f)) (hb : PE X b (tX G W g)) : PE X (.Compare a [.Lt] [b] pos) (tX G W (f2 oLt f g)) := px_cmp op_lt (pr_I20 fun _ _ _ _ => .bl _) ha hb (nomark _)
theorem x_le (ha : PE X a (tX G W f)) (hb : PE X b (tX G W g)) : PE X (.Compare a [.LtE] [b] pos) (tX G W (f2 oLe f g)) := px_cmp op_le (pr_I20 fun _ _ _ _ => .bl _) ha hb (nomark _)
theorem x_gt (ha : PE X a (tX G W f)) (hb : PE X b (tX G W g)) : PE X (.Compare a [.Gt] [b] pos) (tX G W (f2 oGt f g)) := px_cmp op_gt (pr_I20 fun _ _ _ _ => .bl _) ha hb (nomark _)
theorem x_ge (ha : PE X a (tX G W f)) (hb : PE X b (tX G W g)) : PE X (.Compare a [.GtE] [b] pos) (tX G W (f2 oGe f g)) := px_cmp op_ge (pr_I20 fun _ _ _ _ => .bl _) ha hb (nomark _)
theorem t_lt (ha : PE X a (tX G W f)) (hb : PE X b (tX G W g)) : PT X (.Compare a [.Lt] [b] pos) (tT G W (fTb (f2 oLt f g))) := pt_cmp2 op_lt (pr_I20 fun _ _ _ _ => .bl _) ha hb (nomark _)
theorem t_le (ha : PE X a (tX G W f)) (hb : PE X b (tX G W g)) : PT X (.Compare a [.LtE] [b] pos) (tT G W (fTb (f2 oLe f g))) := pt_cmp2 op_le (pr_I20 fun _ _ _ _ => .bl _) ha hb (nomark _)
theorem t_gt (ha : PE X a (tX G W f)) (hb : PE X b (tX G W g)) : PT X (.Compare a [.Gt] [b] pos) (tT G W (fTb (f2 oGt f g))) := pt_cmp2 op_gt (pr_I20 fun _ _ _ _ => .bl _) ha hb (nomark _)
theorem t_ge (ha : PE X a (tX G W f)) (hb : PE X b (tX G W g)) : PT X (.Compare a [.GtE] [b] pos) (tT G W (fTb (f2 oGe f g))) := pt_cmp2 op_ge (pr_I20 fun _ _ _ _ => .bl _) ha hb (nomark _)
end
def oNeg : List O → Option O
  | [.im (.int i)] => some (.im (.int (-i)))
  | _ => none
theorem ow_int1 {H : Hp} {L : Addr → Prop} {vs : List V} {i : Int} {C : List Addr} (r : OwA G H L vs [.im (.int i)] C) : vs = [.int i] := by
  cases r with
  | cons h r => cases r; cases h with
    | im h => cases h; rfl
theorem x_neg {a : Expr} {f : Env → Res AO} {pos : Pos} (ha : PE X a (tX G W f)) : PE X (.UnaryOp .USub a pos) (tX G W (fP oNeg (fCons f fNil))) :=
  px_un un_neg (prim_flat fun L E H vs os o Q r h => by
    unfold oNeg at h
    split at h
    · rename_i i
      cases h
      have e := ow_int1 r
      subst e
      exact ⟨_, _, rfl, fun _ _ => .int _, fun q => ⟨i, rfl, q⟩⟩
    · cases h) ha
/-- n.bit_length() -/
def fBits (f : Env → Res AO) : Env → Res AO := fun e => (f e).bind fun a e1 => match a.get e1 with
  | some (.im (.int i)) => .ok (.v (.im (.int (Builtin.Int.intBits i : Nat)))) e1
  | _ => .no
theorem x_bits {a : Expr} {f : Env → Res AO} {apos pos : Pos} (ha : PE X a (tX G W f)) (hbase : attributeBase a "bit_length" X.env (eval a X.env) = eval a X.env := by rfl) (hline : (apos.endLine == pos.line) = true := by rfl) :
    PE X (.Call (.Attribute a "bit_length" apos) [] [] pos) (tX G W (fBits f)) := by
  refine peW (L2.pe_bits ha hbase hline) fun s H Q ⟨R, e, A, S, z⟩ => ?_
  unfold fBits at z
  refine run_two S (fun hf => by rw [hf] at z; cases z) (fun x e' hf => by rw [hf] at z; exact z) fun a e1 hf v H1 A1 S1 ft F1 => ?_
  rw [hf] at z
  dsimp only [Res.bind] at z
  cases hg : a.get e1 with
  | none => rw [hg] at z; cases z
  | some o =>
    rw [hg] at z
    obtain ⟨C, ow⟩ := get_ow S1.sl ft hg
    cases ow with
    | ob _ _ _ => cases z
    | ls _ _ => cases z
    | im im =>
      cases im with
      | int i =>
        obtain ⟨A2, S2, m⟩ := S1.tail
        exact ⟨i, rfl, z _ H1 A2 ⟨.so (A := []) (.im (.int _)) S2.sl, S2.nd, S2.dj, S2.ft⟩ trivial (F1.sub m)⟩
      | _ => cases z

/-! ### is -/
def isNonD : D → Bool
  | .non => true
  | _ => false
def isNon : O → Bool
  | .im d => isNonD d
  | .ls _ => false
  | .ob _ _ _ => false
theorem isNon_ok {H : Hp} {L : Addr → Prop} {v : V} {o : O} {C : List Addr} (r : Ow G H L v o C) : decide (v = .non) = isNon o := by
  cases r with
  | ls _ _ => simp [isNon]
  | ob _ _ _ => simp [isNon]
  | im r => cases r <;> simp [isNon, isNonD]
def oIsN (neg : Bool) : List O → Option O
  | [o, .im .non] => some (.im (.bl (isNon o != neg)))
  | _ => none
theorem pr_isN : Prim G (r2L fun x y H Q => y = .non ∧ Q (.bl (decide (x = .non))) H) (oIsN false) :=
  prim_flat fun L E H vs os o Q r h => by
    unfold oIsN at h
    split at h
    · rename_i o1
      cases h
      cases r with
      | cons h1 r => cases r with
        | cons h2 r => cases r; cases h2 with
          | im h2 => cases h2; exact ⟨_, _, rfl, fun _ _ => .bl _, fun q => ⟨rfl, by rw [isNon_ok h1]; simpa using q⟩⟩
    · cases h
theorem pr_notN : Prim G (r2L fun x y H Q => y = .non ∧ Q (.bl (!decide (x = .non))) H) (oIsN true) :=
  prim_flat fun L E H vs os o Q r h => by
    unfold oIsN at h
    split at h
    · rename_i o1
      cases h
      cases r with
      | cons h1 r => cases r with
        | cons h2 r => cases r; cases h2 with
          | im h2 => cases h2; exact ⟨_, _, rfl, fun _ _ => .bl _, fun q => ⟨rfl, by rw [isNon_ok h1]; simpa using q⟩⟩
    · cases h
def oIsB (neg : Bool) : List O → Option O
  | [.im (.bl a), .im (.bl b)] => some (.im (.bl ((a == b) != neg)))
  | _ => none
theorem ow_bl2 {H : Hp} {L : Addr → Prop} {vs : List V} {i j : Bool} {C : List Addr} (r : OwA G H L vs [.im (.bl i), .im (.bl j)] C) : vs = [.bl i, .bl j] := by
  cases r with
  | cons h r => cases r with
    | cons h2 r => cases r; cases h with
      | im h => cases h; cases h2 with
        | im h2 => cases h2; rfl
theorem pr_isB : Prim G (r2L rIsB) (oIsB false) :=
  prim_flat fun L E H vs os o Q r h => by
    unfold oIsB at h
    split at h
    · rename_i a b
      cases h
      have e := ow_bl2 r
      subst e
      exact ⟨_, _, rfl, fun _ _ => .bl _, fun q => ⟨a, b, rfl, rfl, by cases a <;> cases b <;> exact q⟩⟩
    · cases h
theorem pr_notB : Prim G (r2L rNotB) (oIsB true) :=
  prim_flat fun L E H vs os o Q r h => by
    unfold oIsB at h
    split at h
    · rename_i a b
      cases h
      have e := ow_bl2 r
      subst e
      exact ⟨_, _, rfl, fun _ _ => .bl _, fun q => ⟨a, b, rfl, rfl, by cases a <;> cases b <;> exact q⟩⟩
    · cases h
section
variable {a b : Expr} {f g : Env → Res AO} {pos : Pos}
theorem x_isN (ha : PE X a (tX G W f)) (hb : PE X b (tX G W g)) : PE X (.Compare a [.Is] [b] pos) (tX G W (f2 (oIsN false) f g)) := px_cmp op_isN pr_isN ha hb (nomark _)
theorem x_notN (ha : PE X a (tX G W f)) (hb : PE X b (tX G W g)) : PE X (.Compare a [.IsNot] [b] pos) (tX G W (f2 (oIsN true) f g)) := px_cmp op_notN pr_notN ha hb (nomark _)
theorem t_isN (ha : PE X a (tX G W f)) (hb : PE X b (tX G W g)) : PT X (.Compare a [.Is] [b] pos) (tT G W (fTb (f2 (oIsN false) f g))) := pt_cmp2 op_isN pr_isN ha hb (nomark _)
theorem t_notN (ha : PE X a (tX G W f)) (hb : PE X b (tX G W g)) : PT X (.Compare a [.IsNot] [b] pos) (tT G W (fTb (f2 (oIsN true) f g))) := pt_cmp2 op_notN pr_notN ha hb (nomark _)
theorem x_isB (ha : PE X a (tX G W f)) (hb : PE X b (tX G W g)) : PE X (.Compare a [.Is] [b] pos) (tX G W (f2 (oIsB false) f g)) := px_cmp L2.op_isBl pr_isB ha hb (nomark _)
theorem t_isB (ha : PE X a (tX G W f)) (hb : PE X b (tX G W g)) : PT X (.Compare a [.Is] [b] pos) (tT G W (fTb (f2 (oIsB false) f g))) := pt_cmp2 L2.op_isBl pr_isB ha hb (nomark _)
end

/-! ### ==, in: data -/
mutual
def D.py : D → Option PyData
  | .non => some .none
  | .bl b => some (.bool b)
  | .int i => some (.int i)
  | .str x => some (.str x)
  | .lst xs => (D.pys xs).map .list
  | .tup xs => (D.pys xs).map .tuple
  | _ => none
def D.pys : List D → Option (List PyData)
  | [] => some []
  | x :: xs => match x.py, D.pys xs with
    | some p, some ps => some (p :: ps)
    | _, _ => none
end
mutual
theorem Im.dp {H : Hp} {L : Addr → Prop} : ∀ {v : V} {d : D} {p : PyData}, Im G H L v d → d.py = some p → Dp G.K H v p
  | _, _, p, .non, h => by rw [D.py] at h; cases h; exact .non
  | _, _, p, .bl b, h => by rw [D.py] at h; cases h; exact .bl b
  | _, _, p, .int i, h => by rw [D.py] at h; cases h; exact .int i
  | _, _, p, .str x, h => by rw [D.py] at h; cases h; exact .str x
  | _, _, p, .lst l r, h => by
    rw [D.py] at h
    cases q : D.pys _ with
    | none => rw [q] at h; cases h
    | some ps => rw [q] at h; cases h; exact .lst l.sq (ImA.dp r q)
  | _, _, p, .tup l r, h => by
    rw [D.py] at h
    cases q : D.pys _ with
    | none => rw [q] at h; cases h
    | some ps => rw [q] at h; cases h; exact .tup l.sq (ImA.dp r q)
  | _, _, p, .dct _ _ _ _, h => by simp [D.py] at h
  | _, _, p, .ins _ _ _ _, h => by simp [D.py] at h
  | _, _, p, .ty _, h => by simp [D.py] at h
  | _, _, p, .cls _, h => by simp [D.py] at h
  | _, _, p, .scr _, h => by simp [D.py] at h
theorem ImA.dp {H : Hp} {L : Addr → Prop} : ∀ {vs : List V} {ds : List D} {ps : List PyData}, ImA G H L vs ds → D.pys ds = some ps → DpAll G.K H vs ps
  | _, _, ps, .nil, h => by rw [D.pys] at h; cases h; exact .nil
  | _, _, ps, .cons i r, h => by
    rw [D.pys] at h
    split at h
    · rename_i p q h1 h2
      cases h
      exact .cons (Im.dp i h1) (ImA.dp r h2)
    · cases h
end
theorem Ow.dp {H : Hp} {L : Addr → Prop} {v : V} {o : O} {C : List Addr} {p : PyData} (r : Ow G H L v o C) (h : o.d.py = some p) : Dp G.K H v p :=
  (Ow.im_of (L' := fun _ => False) (Go.less fun _ h => h.elim) r fun _ _ h => h).dp h
def eqO (neg : Bool) : List O → Option O
  | [x, y] => match x.d.py, y.d.py with
    | some p, some q => if SeqAt.shaped p && SeqAt.shaped q then some (.im (.bl (PyData.eqv p q != neg))) else none
    | _, _ => none
  | _ => none
theorem eqO_ok {neg : Bool} {os : List O} {o : O} (h : eqO neg os = some o) : ∃ x y p q, os = [x, y] ∧ x.d.py = some p ∧ y.d.py = some q ∧ SeqAt.shaped p = true ∧ SeqAt.shaped q = true ∧ o = .im (.bl (PyData.eqv p q != neg)) := by
  unfold eqO at h
  split at h
  · rename_i x y
    split at h
    · rename_i p q h1 h2
      split at h
      · rename_i hs
        cases h
        rw [Bool.and_eq_true] at hs
        exact ⟨x, y, p, q, rfl, h1, h2, hs.1, hs.2, rfl⟩
      · cases h
    · cases h
  · cases h
theorem pr_eq : Prim G (r2L (rEqD G.K)) (eqO false) :=
  prim_flat fun L E H vs os o Q r h => by
    obtain ⟨x, y, p, q, rfl, h1, h2, s1, s2, rfl⟩ := eqO_ok h
    cases r with
    | cons i1 r => cases r with
      | cons i2 r => cases r; exact ⟨_, _, rfl, fun _ _ => .bl _, fun z => ⟨p, q, i1.dp h1, i2.dp h2, s1, s2, by simpa using z⟩⟩
theorem pr_ne : Prim G (r2L (rNeD G.K)) (eqO true) :=
  prim_flat fun L E H vs os o Q r h => by
    obtain ⟨x, y, p, q, rfl, h1, h2, s1, s2, rfl⟩ := eqO_ok h
    cases r with
    | cons i1 r => cases r with
      | cons i2 r => cases r; exact ⟨_, _, rfl, fun _ _ => .bl _, fun z => ⟨p, q, i1.dp h1, i2.dp h2, s1, s2, by simpa using z⟩⟩
def inO (neg : Bool) : List O → Option O
  | [x, y] => match x.d.py, y.d.py with
    | some p, some (.list ps) => if SeqAt.shaped p && SeqAt.shaped (.list ps) then some (.im (.bl ((ps.any fun z => PyData.eqv z p) != neg))) else none
    | _, _ => none
  | _ => none
theorem inO_ok {neg : Bool} {os : List O} {o : O} (h : inO neg os = some o) : ∃ x y p ps, os = [x, y] ∧ x.d.py = some p ∧ y.d.py = some (.list ps) ∧ SeqAt.shaped p = true ∧ SeqAt.shaped (.list ps) = true ∧ o = .im (.bl ((ps.any fun z => PyData.eqv z p) != neg)) := by
  unfold inO at h
  split at h
  · rename_i x y
    split at h
    · rename_i p q h1 h2
      split at h
      · rename_i hs
        cases h
        rw [Bool.and_eq_true] at hs
        exact ⟨x, y, p, q, rfl, h1, h2, hs.1, hs.2, rfl⟩
      · cases h
    · cases h
  · cases h
theorem pr_in : Prim G (r2L (rInD G.K)) (inO false) :=
  prim_flat fun L E H vs os o Q r h => by
    obtain ⟨x, y, p, q, rfl, h1, h2, s1, s2, rfl⟩ := inO_ok h
    cases r with
    | cons i1 r => cases r with
      | cons i2 r => cases r; exact ⟨_, _, rfl, fun _ _ => .bl _, fun z => ⟨p, q, i1.dp h1, i2.dp h2, s1, s2, by simpa using z⟩⟩
theorem pr_notin : Prim G (r2L (rNotInD G.K)) (inO true) :=
  prim_flat fun L E H vs os o Q r h => by
    obtain ⟨x, y, p, q, rfl, h1, h2, s1, s2, rfl⟩ := inO_ok h
    cases r with
    | cons i1 r => cases r with
      | cons i2 r => cases r; exact ⟨_, _, rfl, fun _ _ => .bl _, fun z => ⟨p, q, i1.dp h1, i2.dp h2, s1, s2, by simpa using z⟩⟩
section
variable {a b : Expr} {f g : Env → Res AO} {pos : Pos}
theorem x_eq (hu : X.A.units + 65 < cLine) (ha : PE X a (tX G W f)) (hb : PE X b (tX G W g)) (hK : X.K = G.K := by rfl) : PE X (.Compare a [.Eq] [b] pos) (tX G W (f2 (eqO false) f g)) := px_cmp (r := rEqD G.K) (hK ▸ op_eqD (by omega)) pr_eq ha hb (nomark _)
theorem x_ne (hu : X.A.units + 65 < cLine) (ha : PE X a (tX G W f)) (hb : PE X b (tX G W g)) (hK : X.K = G.K := by rfl) : PE X (.Compare a [.NotEq] [b] pos) (tX G W (f2 (eqO true) f g)) := px_cmp (r := rNeD G.K) (hK ▸ op_neD (by omega)) pr_ne ha hb (nomark _)
theorem t_eq (hu : X.A.units + 65 < cLine) (ha : PE X a (tX G W f)) (hb : PE X b (tX G W g)) (hK : X.K = G.K := by rfl) : PT X (.Compare a [.Eq] [b] pos) (tT G W (fTb (f2 (eqO false) f g))) := pt_cmp2 (r := rEqD G.K) (hK ▸ op_eqD (by omega)) pr_eq ha hb (nomark _)
theorem t_ne (hu : X.A.units + 65 < cLine) (ha : PE X a (tX G W f)) (hb : PE X b (tX G W g)) (hK : X.K = G.K := by rfl) : PT X (.Compare a [.NotEq] [b] pos) (tT G W (fTb (f2 (eqO true) f g))) := pt_cmp2 (r := rNeD G.K) (hK ▸ op_neD (by omega)) pr_ne ha hb (nomark _)
theorem x_in (hu : X.A.units + 65 < cLine) (ha : PE X a (tX G W f)) (hb : PE X b (tX G W g)) (hm : behindInMarks .In b = false := by rfl) (hK : X.K = G.K := by rfl) : PE X (.Compare a [.In] [b] pos) (tX G W (f2 (inO false) f g)) := px_cmp (r := rInD G.K) (hK ▸ op_inD hu) pr_in ha hb hm
theorem x_notin (hu : X.A.units + 65 < cLine) (ha : PE X a (tX G W f)) (hb : PE X b (tX G W g)) (hm : behindInMarks .NotIn b = false := by rfl) (hK : X.K = G.K := by rfl) : PE X (.Compare a [.NotIn] [b] pos) (tX G W (f2 (inO true) f g)) := px_cmp (r := rNotInD G.K) (hK ▸ op_notInD hu) pr_notin ha hb hm
theorem t_in (hu : X.A.units + 65 < cLine) (ha : PE X a (tX G W f)) (hb : PE X b (tX G W g)) (hm : behindInMarks .In b = false := by rfl) (hK : X.K = G.K := by rfl) : PT X (.Compare a [.In] [b] pos) (tT G W (fTb (f2 (inO false) f g))) := pt_cmp2 (r := rInD G.K) (hK ▸ op_inD hu) pr_in ha hb hm
theorem t_notin (hu : X.A.units + 65 < cLine) (ha : PE X a (tX G W f)) (hb : PE X b (tX G W g)) (hm : behindInMarks .NotIn b = false := by rfl) (hK : X.K = G.K := by rfl) : PT X (.Compare a [.NotIn] [b] pos) (tT G W (fTb (f2 (inO true) f g))) := pt_cmp2 (r := rNotInD G.K) (hK ▸ op_notInD hu) pr_notin ha hb hm
end
end
end PV

set_option Elab.async false
set_option linter.all false
set_option maxRecDepth 100000
set_option maxHeartbeats 4000000
/-! PVl: lists and tuples. -/
namespace PV
open PySem L2

section
variable {X : Cx} {W : WX} {G : Cl} {B : List Nat}
/-- the items of a list | a tuple, each with its thing -/
def O.its : O → Option (List O)
  | .im (.lst ds) => some (ds.map O.im)
  | .ls os => some os
  | _ => none
def allIm : List O → Option (List D)
  | [] => some []
  | .im d :: os => (allIm os).map (d :: ·)
  | _ => none
theorem allIm_ok : ∀ {os : List O} {ds : List D}, allIm os = some ds → os = ds.map O.im
  | [], ds, h => by simp [allIm] at h; subst h; rfl
  | .im d :: os, ds, h => by
    simp only [allIm, Option.map_eq_some_iff] at h
    obtain ⟨es, h1, rfl⟩ := h
    rw [List.map_cons, ← allIm_ok h1]
  | .ls _ :: _, _, h => by simp [allIm] at h
/-- a list of read-only items, whoever holds it -/
def lstD : O → Option (List D)
  | .im (.lst ds) => some ds
  | .ls os => allIm os
  | _ => none
theorem OwA.ims {H : Hp} {L : Addr → Prop} : ∀ {vs : List V} {ds : List D} {A : List Addr}, OwA G H L vs (ds.map O.im) A → ImA G H L vs ds
  | _, [], _, .nil => .nil
  | _, d :: ds, _, .cons h r => by cases h with | im h => exact .cons h (OwA.ims r)
theorem lstD_ok {H : Hp} {L : Addr → Prop} {v : V} {o : O} {C : List Addr} {ds : List D} (r : Ow G H L v o C) (h : lstD o = some ds) : ∃ a vs, v = .ref a ∧ Rd H a (.lst vs) ∧ ImA G H L vs ds := by
  cases r with
  | ob _ _ _ => simp [lstD] at h
  | ls h0 r =>
    simp only [lstD] at h
    rw [allIm_ok h] at r
    exact ⟨_, _, rfl, .inl h0, r.ims⟩
  | im r => cases r with
    | lst l r => simp [lstD] at h; subst h; exact ⟨_, _, rfl, l.1, r⟩
    | _ => simp [lstD] at h
def tupD : O → Option (List D)
  | .im (.tup ds) => some ds
  | _ => none
theorem tupD_ok {H : Hp} {L : Addr → Prop} {v : V} {o : O} {C : List Addr} {ds : List D} (r : Ow G H L v o C) (h : tupD o = some ds) : ∃ a vs, v = .ref a ∧ SqT G.K H a vs ∧ ImA G H L vs ds := by
  cases r with
  | ob _ _ _ => simp [tupD] at h
  | ls h0 r => simp [tupD] at h
  | im r => cases r with
    | tup l r => simp [tupD] at h; subst h; exact ⟨_, _, rfl, l.sq, r⟩
    | _ => simp [tupD] at h
theorem ow1 {H : Hp} {L : Addr → Prop} {vs : List V} {o : O} {C : List Addr} (r : OwA G H L vs [o] C) : ∃ v C', vs = [v] ∧ Ow G H L v o C' := by
  cases r with
  | cons h r => cases r; exact ⟨_, _, rfl, h⟩
theorem ow2 {H : Hp} {L : Addr → Prop} {vs : List V} {o o' : O} {C : List Addr} (r : OwA G H L vs [o, o'] C) : ∃ v v' C1 C2, vs = [v, v'] ∧ Ow G H L v o C1 ∧ Ow G H L v' o' C2 := by
  cases r with
  | cons h r => cases r with
    | cons h2 r => cases r; exact ⟨_, _, _, _, rfl, h, h2⟩
theorem ow3 {H : Hp} {L : Addr → Prop} {vs : List V} {o o' o2 : O} {C : List Addr} (r : OwA G H L vs [o, o', o2] C) : ∃ v v' v2 C1 C2 C3, vs = [v, v', v2] ∧ Ow G H L v o C1 ∧ Ow G H L v' o' C2 ∧ Ow G H L v2 o2 C3 := by
  cases r with
  | cons h r => cases r with
    | cons h2 r => cases r with
      | cons h3 r => cases r; exact ⟨_, _, _, _, _, _, rfl, h, h2, h3⟩
/-- a new list of read-only items -/
theorem SR.newi {R : Addr → Prop} {H : Hp} {s : St} {e : Env} {A : List Addr} {p : Addr} {vs : List V} {ds : List D} (S : SR G R H s e A) (hp : H p = none) (im : ImA G H (fun a => a ∈ A ∨ R a) vs ds) :
    SR G R (upd H p (.lst vs)) (some (.ref p) :: s) (some (.ls (ds.map O.im)) :: e) (p :: A) ∧ Fr0 H A (upd H p (.lst vs)) (p :: A) := by
  have S' : SR G R H (vs.map some ++ s) ((ds.map O.im).map some ++ e) A := by
    have q := (map_im im).app S.sl
    rw [List.nil_append] at q
    exact ⟨q, S.nd, S.dj, S.ft⟩
  exact SR.newl (q := false) S' (by rw [im.length, List.length_map]) hp

/-! ### length, sums -/
def lenO : O → Option Nat
  | .im (.lst ds) => some ds.length
  | .im (.tup ds) => some ds.length
  | .im (.str x) => if x.length ≤ sizeLine then some x.length else none
  | .ls os => some os.length
  | _ => none
def lenI (n : Nat) : O := .im (.int (n : Int))
def oLen : List O → Option O
  | [o] => (lenO o).map lenI
  | _ => none
theorem pr_len : Prim G (fun xs H Q => ∃ (x : V) (n : Nat), xs = [x] ∧ LenV G.K x H n ∧ Q (.int (n : Int)) H) oLen :=
  prim_flat fun L E H vs os o Q r h => by
    unfold oLen at h
    split at h
    · rename_i o1
      obtain ⟨v, C', rfl, r1⟩ := ow1 r
      rw [Option.map_eq_some_iff] at h
      obtain ⟨k, h1, rfl⟩ := h
      refine ⟨_, _, rfl, fun _ _ => .int _, fun q => ⟨v, k, rfl, ?_, q⟩⟩
      cases r1 with
      | ob _ _ _ => simp [lenO] at h1
      | ls h0 r1 => simp [lenO] at h1; subst h1; exact .inl ⟨_, .inl (.inl h0), r1.length.symm⟩
      | im r1 => cases r1 with
        | lst l r1 => simp [lenO] at h1; subst h1; exact .inl ⟨_, l.sq, r1.length.symm⟩
        | tup l r1 => simp [lenO] at h1; subst h1; exact .inr ⟨_, l.sq, r1.length.symm⟩
        | str x =>
          simp only [lenO] at h1
          split at h1
          · rename_i hz; cases h1; exact ⟨hz, rfl⟩
          · cases h1
        | _ => simp [lenO] at h1
    · cases h
/-- a list of ints -/
def intsD : List D → Option (List Int)
  | [] => some []
  | .int i :: ds => (intsD ds).map (i :: ·)
  | _ => none
theorem intsD_ok {H : Hp} {L : Addr → Prop} : ∀ {ds : List D} {vs : List V} {ns : List Int}, ImA G H L vs ds → intsD ds = some ns → vs = ns.map V.int
  | [], _, ns, .nil, h => by simp [intsD] at h; subst h; rfl
  | d :: ds, _, ns, .cons h0 r, h => by
    cases h0 with
    | int i =>
      simp only [intsD, Option.map_eq_some_iff] at h
      obtain ⟨ms, h1, rfl⟩ := h
      rw [List.map_cons, intsD_ok r h1]
    | _ => simp [intsD] at h
theorem intsD_map (ns : List Int) : intsD (ns.map D.int) = some ns := by
  induction ns with
  | nil => rfl
  | cons n ns ih => simp [intsD, ih]
def intsO (o : O) : Option (List Int) := (lstD o).bind intsD
theorem intsO_ok {H : Hp} {L : Addr → Prop} {v : V} {o : O} {C : List Addr} {ns : List Int} (r : Ow G H L v o C) (h : intsO o = some ns) : ∃ a, v = .ref a ∧ Rd H a (.lst (ns.map V.int)) := by
  unfold intsO at h
  rw [Option.bind_eq_some_iff] at h
  obtain ⟨ds, h1, h2⟩ := h
  obtain ⟨a, vs, rfl, h3, im⟩ := lstD_ok r h1
  exact ⟨a, rfl, by rw [← intsD_ok im h2]; exact h3⟩
def oSum : List O → Option O
  | [o] => (intsO o).map fun ns => .im (.int ns.sum)
  | _ => none
theorem pr_sum : Prim G (rSum G.K) oSum :=
  prim_flat fun L E H vs os o Q r h => by
    unfold oSum at h
    split at h
    · obtain ⟨v, C', rfl, r1⟩ := ow1 r
      rw [Option.map_eq_some_iff] at h
      obtain ⟨ns, h1, rfl⟩ := h
      obtain ⟨a, rfl, h2⟩ := intsO_ok r1 h1
      exact ⟨_, _, rfl, fun _ _ => .int _, fun q => ⟨a, ns, rfl, .inl h2, q⟩⟩
    · cases h
def maxL : List Int → Option Int
  | [] => none
  | n :: ns => some (ns.foldl max n)
def minL : List Int → Option Int
  | [] => none
  | n :: ns => some (ns.foldl min n)
theorem foldl_max_mem : ∀ (ns : List Int) (n : Int), ns.foldl max n ∈ n :: ns ∧ n ≤ ns.foldl max n ∧ ∀ y ∈ ns, y ≤ ns.foldl max n
  | [], n => ⟨by simp, by simp, by simp⟩
  | m :: ns, n => by
    obtain ⟨h1, h2, h3⟩ := foldl_max_mem ns (max n m)
    rw [List.foldl_cons]
    refine ⟨?_, by omega, ?_⟩
    · rcases List.mem_cons.mp h1 with e | e
      · rw [e]
        rcases Int.le_total n m with q | q
        · rw [Int.max_eq_right q]; simp
        · rw [Int.max_eq_left q]; simp
      · exact List.mem_cons_of_mem _ (List.mem_cons_of_mem _ e)
    · intro y hy
      rcases List.mem_cons.mp hy with e | e
      · subst e; omega
      · exact h3 y e
theorem foldl_min_mem : ∀ (ns : List Int) (n : Int), ns.foldl min n ∈ n :: ns ∧ ns.foldl min n ≤ n ∧ ∀ y ∈ ns, ns.foldl min n ≤ y
  | [], n => ⟨by simp, by simp, by simp⟩
  | m :: ns, n => by
    obtain ⟨h1, h2, h3⟩ := foldl_min_mem ns (min n m)
    rw [List.foldl_cons]
    refine ⟨?_, by omega, ?_⟩
    · rcases List.mem_cons.mp h1 with e | e
      · rw [e]
        rcases Int.le_total n m with q | q
        · rw [Int.min_eq_left q]; simp
        · rw [Int.min_eq_right q]; simp
      · exact List.mem_cons_of_mem _ (List.mem_cons_of_mem _ e)
    · intro y hy
      rcases List.mem_cons.mp hy with e | e
      · subst e; omega
      · exact h3 y e
def oMaxL : List O → Option O
  | [o] => ((intsO o).bind maxL).map fun n => .im (.int n)
  | _ => none
def oMinL : List O → Option O
  | [o] => ((intsO o).bind minL).map fun n => .im (.int n)
  | _ => none
theorem pr_maxL : Prim G (rMax G.K) oMaxL :=
  prim_flat fun L E H vs os o Q r h => by
    unfold oMaxL at h
    split at h
    · obtain ⟨v, C', rfl, r1⟩ := ow1 r
      rw [Option.map_eq_some_iff] at h
      obtain ⟨n, h0, rfl⟩ := h
      rw [Option.bind_eq_some_iff] at h0
      obtain ⟨ns, h1, h2⟩ := h0
      obtain ⟨a, rfl, h3⟩ := intsO_ok r1 h1
      refine ⟨_, _, rfl, fun _ _ => .int _, fun q => ⟨a, ns, rfl, .inl h3, ?_, fun m hm hle => ?_⟩⟩
      · cases ns with
        | nil => cases h2
        | cons _ _ => simp
      · cases ns with
        | nil => cases h2
        | cons k ns =>
          cases h2
          obtain ⟨q1, q2, q3⟩ := foldl_max_mem ns k
          have e : m = ns.foldl max k := by
            have u1 := hle _ q1
            rcases List.mem_cons.mp hm with e | e
            · omega
            · have := q3 m e; omega
          rw [e]; exact q
    · cases h
theorem pr_minL : Prim G (rMin G.K) oMinL :=
  prim_flat fun L E H vs os o Q r h => by
    unfold oMinL at h
    split at h
    · obtain ⟨v, C', rfl, r1⟩ := ow1 r
      rw [Option.map_eq_some_iff] at h
      obtain ⟨n, h0, rfl⟩ := h
      rw [Option.bind_eq_some_iff] at h0
      obtain ⟨ns, h1, h2⟩ := h0
      obtain ⟨a, rfl, h3⟩ := intsO_ok r1 h1
      refine ⟨_, _, rfl, fun _ _ => .int _, fun q => ⟨a, ns, rfl, .inl h3, ?_, fun m hm hle => ?_⟩⟩
      · cases ns with
        | nil => cases h2
        | cons _ _ => simp
      · cases ns with
        | nil => cases h2
        | cons k ns =>
          cases h2
          obtain ⟨q1, q2, q3⟩ := foldl_min_mem ns k
          have e : m = ns.foldl min k := by
            have u1 := hle _ q1
            rcases List.mem_cons.mp hm with e | e
            · omega
            · have := q3 m e; omega
          rw [e]; exact q
    · cases h
abbrev oMax2 := oI2 yes2 fun i j => .int (max i j)
abbrev oMin2 := oI2 yes2 fun i j => .int (min i j)
theorem pr_max2 : Prim G (fun xs H Q => ∃ i j : Int, xs = [.int i, .int j] ∧ Q (.int (if j > i then j else i)) H) oMax2 :=
  prim_flat fun L E H vs os o Q r h => by
    obtain ⟨i, j, rfl, h1, rfl⟩ := oI2_ok h
    have e := ow_int2 r
    subst e
    refine ⟨_, _, rfl, fun _ _ => .int _, fun q => ⟨i, j, rfl, ?_⟩⟩
    have e : (if j > i then j else i) = max i j := by split <;> omega
    rw [e]; exact q
theorem pr_min2 : Prim G (fun xs H Q => ∃ i j : Int, xs = [.int i, .int j] ∧ Q (.int (if j < i then j else i)) H) oMin2 :=
  prim_flat fun L E H vs os o Q r h => by
    obtain ⟨i, j, rfl, h1, rfl⟩ := oI2_ok h
    have e := ow_int2 r
    subst e
    refine ⟨_, _, rfl, fun _ _ => .int _, fun q => ⟨i, j, rfl, ?_⟩⟩
    have e : (if j < i then j else i) = min i j := by split <;> omega
    rw [e]; exact q
def oInt : List O → Option O
  | [.im (.int i)] => some (.im (.int i))
  | [.im (.bl b)] => some (.im (.int (if b then 1 else 0)))
  | _ => none
theorem pr_int : Prim G (fun xs H Q => (∃ i, xs = [.int i] ∧ Q (.int i) H) ∨ ∃ k, xs = [.bl k] ∧ Q (.int (if k then 1 else 0)) H) oInt :=
  prim_flat fun L E H vs os o Q r h => by
    obtain ⟨o1, rfl⟩ : ∃ o1, os = [o1] := by
      unfold oInt at h
      split at h
      · exact ⟨_, rfl⟩
      · exact ⟨_, rfl⟩
      · cases h
    obtain ⟨v, C', rfl, r1⟩ := ow1 r
    cases r1 with
    | ls _ _ => simp [oInt] at h
    | ob _ _ _ => simp [oInt] at h
    | im r1 => cases r1 with
      | int i => simp only [oInt, Option.some.injEq] at h; subst h; exact ⟨_, _, rfl, fun _ _ => .int _, fun q => .inl ⟨i, rfl, q⟩⟩
      | bl b => simp only [oInt, Option.some.injEq] at h; subst h; exact ⟨_, _, rfl, fun _ _ => .int _, fun q => .inr ⟨b, rfl, q⟩⟩
      | _ => simp [oInt] at h

/-! ### items -/
def ixO : List O → Option O
  | [o, .im (.int i)] => match lstD o with
    | some ds => (atI ds i).map O.im
    | none => match tupD o with
      | some ds => (atI ds i).map O.im
      | none => none
  | _ => none
theorem atI_map {α β : Type} {xs : List α} {ys : List β} {i : Int} {y : β} (hl : xs.length = ys.length) (h : atI ys i = some y) : ∃ (j : Nat) (x : α), atI xs i = some x ∧ xs[j]? = some x ∧ ys[j]? = some y := by
  unfold atI at h ⊢
  rw [Option.bind_eq_some_iff] at h
  obtain ⟨j, h1, h2⟩ := h
  have hj := lt_of_get h2
  rw [hl, h1]
  refine ⟨j, xs[j]'(by omega), ?_, ?_, h2⟩
  · simp [hl, hj]
  · simp [hl, hj]
theorem ImA.getB {H : Hp} {L : Addr → Prop} {vs : List V} {ds : List D} {j : Nat} {v : V} {d : D} (r : ImA G H L vs ds) (h1 : vs[j]? = some v) (h2 : ds[j]? = some d) : Im G H L v d := by
  obtain ⟨d', h3, im⟩ := r.getV h1
  rw [h2] at h3; cases h3; exact im
theorem pr_ix : Prim G (r2L (rIx G.K)) ixO := by
  refine prim_flat fun L E H vs os o Q r h => ?_
  unfold ixO at h
  split at h
  · rename_i o1 i
    obtain ⟨v, v', C1, C2, rfl, r1, r2⟩ := ow2 r
    cases r2 with
    | im r2 =>
      cases r2
      cases hl : lstD o1 with
      | some ds =>
        rw [hl] at h
        dsimp only at h
        rw [Option.map_eq_some_iff] at h
        obtain ⟨d, h1, rfl⟩ := h
        obtain ⟨a, vs, rfl, h3, im⟩ := lstD_ok r1 hl
        obtain ⟨j, x, h4, h5, h6⟩ := atI_map im.length h1
        exact ⟨x, d, rfl, fun L' hL => (im.getB h5 h6).go (Go.less hL), fun q => .inl ⟨a, vs, i, x, rfl, rfl, .inl h3, h4, q⟩⟩
      | none =>
        rw [hl] at h
        dsimp only at h
        cases ht : tupD o1 with
        | none => rw [ht] at h; cases h
        | some ds =>
          rw [ht] at h
          dsimp only at h
          rw [Option.map_eq_some_iff] at h
          obtain ⟨d, h1, rfl⟩ := h
          obtain ⟨a, vs, rfl, h3, im⟩ := tupD_ok r1 ht
          obtain ⟨j, x, h4, h5, h6⟩ := atI_map im.length h1
          exact ⟨x, d, rfl, fun L' hL => (im.getB h5 h6).go (Go.less hL), fun q => .inr (.inl ⟨a, vs, i, x, rfl, rfl, h3, h4, q⟩)⟩
  · cases h
theorem x_ix {a b : Expr} {f g : Env → Res AO} {pos : Pos} (ha : PE X a (tX G W f)) (hb : PE X b (tX G W g)) (hs : PlainIx b := by intro _ _; rfl) (hK : X.K = G.K := by rfl) : PE X (.Subscript a b pos) (tX G W (f2 ixO f g)) := px_ix (r := rIx G.K) (hK ▸ ix_seq) pr_ix ha hb hs
/-- x[i][j], x a table that is still written -/
def ix2O : List O → Option O
  | [o, .im (.int i), .im (.int j)] => match o with
    | .ls rows => (atI rows i).bind fun row => (lstD row).bind fun ds => (atI ds j).map O.im
    | _ => none
  | _ => none

/-! ### + and * of lists -/
def rCatR : R2 := fun x y H Q => ∃ l b xs zs, x = .ref l ∧ y = .ref b ∧ Rd H l (.lst xs) ∧ Rd H b (.lst zs) ∧ xs.length + zs.length ≤ sizeLine ∧ ∀ p, H p = none → Q (.ref p) (upd H p (.lst (xs ++ zs)))
theorem rd_lst {pins : List (Addr × Obj)} {σ : St} {H : Hp} {s : Shared} {a : Addr} {xs : List V} (I : Inv X pins σ H s) (h : Rd H a (.lst xs)) : xs.length ≤ sizeLine ∧ ∃ (us : List Value) (n : Nat), Vals xs us ∧ s.heap.get? a = some { cls := .type "list", data := .seq us.toArray n } := h.ok I.hok
theorem op_catR : OpR X (binaryOp .Add) rCatR := by
  intro pins s σ H x y v u Q I rx ry h
  obtain ⟨l, b, xs, zs, rfl, rfl, h1, h2, hz, q⟩ := h
  cases rx; cases ry
  obtain ⟨_, us, n, r1, e1⟩ := rd_lst I h1
  obtain ⟨_, ws, m, r2, e2⟩ := rd_lst I h2
  have l1 := r1.length
  have l2 := r2.length
  refine PySem.P.add_list e1 e2 ?_ (by rw [List.size_toArray, List.size_toArray]; omega)
  rw [show us.toArray ++ ws.toArray = (us ++ ws).toArray by simp]
  exact ⟨.ref _, _, I.lnew (t' := s.toks) (r1.append r2) (by rw [List.length_append]; exact hz), rfl, q _ I.fresh⟩
def catO : List O → Option O
  | [x, y] => match lstD x, lstD y with
    | some ds, some es => if ds.length + es.length ≤ sizeLine then some (.ls ((ds ++ es).map O.im)) else none
    | _, _ => none
  | _ => none
theorem pr_cat : Prim G (r2L rCatR) catO := by
  intro R s e A E H vs os o Q S r h k
  unfold catO at h
  split at h
  · rename_i x y
    split at h
    · rename_i ds es h1 h2
      split at h
      · rename_i hz
        cases h
        obtain ⟨v, v', C1, C2, rfl, r1, r2⟩ := ow2 r
        obtain ⟨a, ws, rfl, h3, i1⟩ := lstD_ok r1 h1
        obtain ⟨b, zs, rfl, h4, i2⟩ := lstD_ok r2 h2
        refine ⟨a, b, ws, zs, rfl, rfl, h3, h4, by rw [i1.length, i2.length]; exact hz, fun p np => ?_⟩
        obtain ⟨S2, F2⟩ := S.newi np (i1.append i2)
        exact k _ _ _ S2 F2
      · cases h
    · cases h
  · cases h
/-- + of ints | of lists -/
def oPlus (os : List O) : Option O := match oAdd os with
  | some o => some o
  | none => catO os
theorem OpR.or {op : Value → Value → Sem Value} {r r' : R2} (h : OpR X op r) (h' : OpR X op r') : OpR X op (fun x y H Q => r x y H Q ∨ r' x y H Q) := fun pins s σ H x y v u Q I rx ry z => z.elim (h pins s σ H x y v u Q I rx ry) (h' pins s σ H x y v u Q I rx ry)
theorem Prim.or {r r' : R2} {fo fo' : List O → Option O} (h : Prim G (r2L r) fo) (h' : Prim G (r2L r') fo') : Prim G (r2L fun x y H Q => r x y H Q ∨ r' x y H Q) (fun os => match fo os with | some o => some o | none => fo' os) := by
  intro R s e A E H vs os o Q S ow ho k
  dsimp only at ho
  cases q : fo os with
  | some o1 =>
    rw [q] at ho; cases ho
    have := h R s e A E H vs os _ Q S ow q k
    match vs, this with
    | [], _ => trivial
    | [_], _ => trivial
    | [x, y], z => exact .inl z
    | _ :: _ :: _ :: _, _ => trivial
  | none =>
    rw [q] at ho
    have := h' R s e A E H vs os o Q S ow ho k
    match vs, this with
    | [], _ => trivial
    | [_], _ => trivial
    | [x, y], z => exact .inr z
    | _ :: _ :: _ :: _, _ => trivial
theorem x_plus {a b : Expr} {f g : Env → Res AO} {pos : Pos} (ha : PE X a (tX G W f)) (hb : PE X b (tX G W g)) : PE X (.BinOp a .Add b pos) (tX G W (f2 oPlus f g)) :=
  px_bin (op_add.or op_catR) ((pr_I20 fun _ _ _ _ => .int _).or pr_cat) ha hb
def rRepR : R2 := fun x y H Q => ∃ l k xs, x = .ref l ∧ y = .int k ∧ H l = some (.lst xs) ∧ -(2 ^ 63) ≤ k ∧ k < 2 ^ 63 ∧ xs.length * k.toNat ≤ sizeLine ∧
  ∀ p, H p = none → Q (.ref p) (upd H p (.lst (List.replicate k.toNat xs).flatten))
def repO : List O → Option O
  | [.ls os, .im (.int k)] => match allIm os with
    | some ds => if -(2 ^ 63) ≤ k ∧ k < 2 ^ 63 ∧ ds.length * k.toNat ≤ sizeLine then some (.ls ((List.replicate k.toNat ds).flatten.map O.im)) else none
    | none => none
  | _ => none
theorem ImA.rep {H : Hp} {L : Addr → Prop} {vs : List V} {ds : List D} (r : ImA G H L vs ds) : ∀ k : Nat, ImA G H L (List.replicate k vs).flatten (List.replicate k ds).flatten
  | 0 => .nil
  | k + 1 => by rw [List.replicate_succ, List.replicate_succ, List.flatten_cons, List.flatten_cons]; exact r.append (r.rep k)
theorem pr_rep : Prim G (r2L rRep) repO := by
  intro R s e A E H vs os o Q S r h k
  unfold repO at h
  split at h
  · rename_i os' n
    split at h
    · rename_i ds h1
      split at h
      · rename_i hz
        cases h
        obtain ⟨v, v', C1, C2, rfl, r1, r2⟩ := ow2 r
        cases r2 with
        | im r2 =>
          cases r2
          cases r1 with
          | ls h0 r1 =>
            rw [allIm_ok h1] at r1
            have i1 := r1.ims
            refine ⟨_, n, _, rfl, rfl, h0, hz.1, hz.2.1, by rw [i1.length]; exact hz.2.2, fun p np => ?_⟩
            obtain ⟨S2, F2⟩ := S.newi np (i1.rep n.toNat)
            exact k _ _ _ S2 F2
      · cases h
    · cases h
  · cases h
def oTimes (os : List O) : Option O := match oMul os with
  | some o => some o
  | none => repO os
theorem x_times {a b : Expr} {f g : Env → Res AO} {pos : Pos} (ha : PE X a (tX G W f)) (hb : PE X b (tX G W g)) : PE X (.BinOp a .Mult b pos) (tX G W (f2 oTimes f g)) :=
  px_bin (op_mulW.or op_rep) ((pr_I2 (fun i j h => by
  have h' : cMul i j = true := h
  unfold cMul at h'
  exact (of_decide_eq_true h' : i.natAbs.log2 + j.natAbs.log2 < 1000000)) fun _ _ _ _ => .int _).or pr_rep) ha hb

/-! ### slices -/
def cutD (ds : List D) (lo hi : Option Int) : List D := (ds.drop (HT.sIx ds.length 0 lo)).take (HT.sIx ds.length ds.length hi - HT.sIx ds.length 0 lo)
def lstS : O → Option (List D)
  | .im (.scr ns) => some (ns.map D.int)
  | o => lstD o
theorem intsIm0 {H : Hp} {L : Addr → Prop} : ∀ (ns : List Int), ImA G H L (ns.map V.int) (ns.map D.int)
  | [] => .nil
  | n :: ns => .cons (.int n) (intsIm0 ns)
theorem lstS_ok {H : Hp} {L : Addr → Prop} {v : V} {o : O} {C : List Addr} {ds : List D} (r : Ow G H L v o C) (h : lstS o = some ds) : ∃ a vs, v = .ref a ∧ SqL G.K H a vs ∧ ImA G H L vs ds := by
  unfold lstS at h
  split at h
  · cases h
    cases r with
    | im r => cases r with
      | scr l => exact ⟨_, _, rfl, l.sq, intsIm0 _⟩
  · obtain ⟨a, vs, e, h3, im⟩ := lstD_ok r h
    exact ⟨a, vs, e, .inl h3, im⟩
def slO (lo hi : Option Int) : O → Option O := fun o => match lstS o with
  | some ds => some (.ls ((cutD ds lo hi).map O.im))
  | none => match tupD o with
    | some ds => if HT.sIx ds.length 0 lo = 0 ∧ HT.sIx ds.length ds.length hi = ds.length then none else some (.im (.tup (cutD ds lo hi)))
    | none => none
def rSlLT (K : PySem.W.Frag) : V → Option Int → Option Int → Hp → VK → Prop := fun x lo hi H Q => rSlL K x lo hi H Q ∨ rSlT K x lo hi H Q
theorem sl_ok {R : Addr → Prop} {s : St} {e : Env} {A C : List Addr} {H : Hp} {v : V} {o o' : O} {lo hi : Option Int} {Q : VK} (S : SR G R H s e A) (r : Ow G H (fun a => a ∈ A ∨ R a) v o C) (h : slO lo hi o = some o')
    (k : ∀ v H' A', SR G R H' (some v :: s) (some o' :: e) A' → Fr0 H A H' A' → Q v H') : rSlLT G.K v lo hi H Q := by
  unfold slO at h
  cases hl : lstS o with
  | some ds =>
    rw [hl] at h; cases h
    obtain ⟨a, vs, rfl, h3, im⟩ := lstS_ok r hl
    refine .inl ⟨a, vs, rfl, h3, fun p np => ?_⟩
    have ic : ImA G H (fun a => a ∈ A ∨ R a) (cutV vs lo hi) (cutD ds lo hi) := by
      unfold cutV cutD
      rw [im.length]
      exact (im.drop _).take _
    obtain ⟨S2, F2⟩ := S.newi np ic
    exact k _ _ _ S2 F2
  | none =>
    rw [hl] at h
    dsimp only at h
    cases ht : tupD o with
    | none => rw [ht] at h; cases h
    | some ds =>
      rw [ht] at h
      dsimp only at h
      split at h
      · cases h
      · rename_i hn
        cases h
        obtain ⟨a, vs, rfl, h3, im⟩ := tupD_ok r ht
        refine .inr ⟨a, vs, rfl, h3, by rw [im.length]; exact hn, fun p np => ?_⟩
        have ic : ImA G H (fun a => a ∈ A ∨ R a) (cutV vs lo hi) (cutD ds lo hi) := by
          unfold cutV cutD
          rw [im.length]
          exact (im.drop _).take _
        obtain ⟨S2, F2⟩ := S.newd (u := .tup (cutV vs lo hi)) (d := .tup (cutD ds lo hi)) np fun L hL => .tup (.inl ⟨.inl upd_same, fun z => by
            rcases hL _ z with z | z
            · obtain ⟨u, hu⟩ := S.dom _ z; rw [np] at hu; cases hu
            · obtain ⟨u, hu⟩ := S.ft _ z; rw [np] at hu; cases hu⟩) ((ic.go (Go.less hL)).go (go_push np))
        exact k _ _ _ S2 F2
/-- the bounds' ints -/
def intO : O → Option Int
  | .im (.int i) => some i
  | _ => none
theorem intO_ok {H : Hp} {L : Addr → Prop} {v : V} {o : O} {C : List Addr} {i : Int} (r : Ow G H L v o C) (h : intO o = some i) : v = .int i := by
  cases r with
  | ls _ _ => cases h
  | ob _ _ _ => cases h
  | im r => cases r with
    | int j => simp [intO] at h; subst h; rfl
    | _ => simp [intO] at h
def sl00 : List O → Option O
  | [o] => slO none none o
  | _ => none
def sl10 : List O → Option O
  | [o, l] => (intO l).bind fun i => slO (some i) none o
  | _ => none
def sl01 : List O → Option O
  | [o, u] => (intO u).bind fun i => slO none (some i) o
  | _ => none
def sl11 : List O → Option O
  | [o, l, u] => (intO l).bind fun i => (intO u).bind fun j => slO (some i) (some j) o
  | _ => none
theorem pr_sl00 : Prim G (fun vs H Q => ∀ v, vs = [v] → rSlLT G.K v none none H Q) sl00 := by
  intro R s e A E H vs os o Q S r h k v hv
  subst hv
  cases os with
  | nil => cases h
  | cons o1 os => cases os with
    | nil => obtain ⟨w, C, e1, r1⟩ := ow1 r; cases e1; exact sl_ok S r1 h k
    | cons _ _ => cases h
theorem pr_sl10 : Prim G (fun vs H Q => ∀ v w, vs = [v, w] → ∃ i, w = .int i ∧ rSlLT G.K v (some i) none H Q) sl10 := by
  intro R s e A E H vs os o Q S r h k v w hv
  subst hv
  unfold sl10 at h
  split at h
  · obtain ⟨v1, v2, _, _, e1, r1, r2⟩ := ow2 r
    cases e1
    rw [Option.bind_eq_some_iff] at h
    obtain ⟨i, h1, h2⟩ := h
    exact ⟨i, intO_ok r2 h1, sl_ok S r1 h2 k⟩
  · cases h
theorem pr_sl01 : Prim G (fun vs H Q => ∀ v w, vs = [v, w] → ∃ i, w = .int i ∧ rSlLT G.K v none (some i) H Q) sl01 := by
  intro R s e A E H vs os o Q S r h k v w hv
  subst hv
  unfold sl01 at h
  split at h
  · obtain ⟨v1, v2, _, _, e1, r1, r2⟩ := ow2 r
    cases e1
    rw [Option.bind_eq_some_iff] at h
    obtain ⟨i, h1, h2⟩ := h
    exact ⟨i, intO_ok r2 h1, sl_ok S r1 h2 k⟩
  · cases h
theorem pr_sl11 : Prim G (fun vs H Q => ∀ v w u, vs = [v, w, u] → ∃ i j, w = .int i ∧ u = .int j ∧ rSlLT G.K v (some i) (some j) H Q) sl11 := by
  intro R s e A E H vs os o Q S r h k v w u hv
  subst hv
  unfold sl11 at h
  split at h
  · obtain ⟨v1, v2, v3, _, _, _, e1, r1, r2, r3⟩ := ow3 r
    cases e1
    rw [Option.bind_eq_some_iff] at h
    obtain ⟨i, h1, h2⟩ := h
    rw [Option.bind_eq_some_iff] at h2
    obtain ⟨j, h2, h3⟩ := h2
    exact ⟨i, j, intO_ok r2 h1, intO_ok r3 h2, sl_ok S r1 h3 k⟩
  · cases h
section
variable {a l u : Expr} {f g h : Env → Res AO} {pos p2 : Pos}
theorem sl_lt (hK : X.K = G.K) : SlR X (rSlLT G.K) := by
  rw [← hK]
  exact fun pins s σ H x v vl vu lo hi sl Q I rx hs pl pu z => z.elim (sl_list pins s σ H x v vl vu lo hi sl Q I rx hs pl pu) (sl_tup pins s σ H x v vl vu lo hi sl Q I rx hs pl pu)
theorem x_sl00 (ha : PE X a (tX G W f)) (hK : X.K = G.K := by rfl) : PE X (.Subscript a (.Slice none none none p2) pos) (tX G W (fP sl00 (fCons f fNil))) :=
  peW (L2.pe_slice (sl_lt hK) ha po_none po_none) fun s H Q z => by
    have q := tl_cons (run_prim pr_sl00 z)
    obtain ⟨R, e, A, S, y⟩ := q
    refine ⟨R, e, A, S, ?_⟩
    cases hf : f e with
    | no => rw [hf] at y; cases y
    | er x e' => rw [hf] at y; exact y
    | ok b e1 => rw [hf] at y; exact fun v H' A' S' ft F => tl_nil (y v H' A' S' ft F) v rfl
theorem tX_imp {f : Env → Res AO} {s : St} {H : Hp} {Q Q' : VK} (h : tX G W f s H Q) (k : ∀ v H', Q v H' → Q' v H') : tX G W f s H Q' := by
  obtain ⟨R, e, A, S, y⟩ := h
  refine ⟨R, e, A, S, ?_⟩
  cases hf : f e with
  | no => rw [hf] at y; cases y
  | er x e' => rw [hf] at y; exact y
  | ok b e1 => rw [hf] at y; exact fun v H' A' S' ft F => k v H' (y v H' A' S' ft F)
theorem x_sl10 (ha : PE X a (tX G W f)) (hl : PE X l (tX G W g)) (hK : X.K = G.K := by rfl) : PE X (.Subscript a (.Slice (some l) none none p2) pos) (tX G W (fP sl10 (fCons f (fCons g fNil)))) :=
  peW (L2.pe_slice (sl_lt hK) ha (po_some hl) po_none) fun s H Q z =>
    tX_imp (tl_cons (run_prim pr_sl10 z)) fun v H1 z1 => tX_imp (tl_cons z1) fun w H2 z2 => tl_nil z2 v w rfl
theorem x_sl01 (ha : PE X a (tX G W f)) (hl : PE X u (tX G W g)) (hK : X.K = G.K := by rfl) : PE X (.Subscript a (.Slice none (some u) none p2) pos) (tX G W (fP sl01 (fCons f (fCons g fNil)))) :=
  peW (L2.pe_slice (sl_lt hK) ha po_none (po_some hl)) fun s H Q z =>
    tX_imp (tl_cons (run_prim pr_sl01 z)) fun v H1 z1 => tX_imp (tl_cons z1) fun w H2 z2 => tl_nil z2 v w rfl
/-- an expression that gives an int -/
def fInt (f : Env → Res AO) : Env → Res AO := fun e => (f e).bind fun a e1 => match (a.get e1).bind intO with
  | some i => .ok (.v (.im (.int i))) e1
  | none => .no
theorem tX_fInt {f : Env → Res AO} {s : St} {H : Hp} {Q : VK} (h : tX G W (fInt f) s H Q) : tX G W f s H fun v H' => (∃ i, v = .int i) ∧ Q v H' := by
  obtain ⟨R, e, A, S, z⟩ := h
  unfold fInt at z
  refine run_two S (fun hf => by rw [hf] at z; cases z) (fun x e' hf => by rw [hf] at z; exact z) fun a e1 hf v H1 A1 S1 ft F1 => ?_
  rw [hf] at z
  dsimp only [Res.bind] at z
  cases hg : (a.get e1).bind intO with
  | none => rw [hg] at z; cases z
  | some i =>
    rw [hg] at z
    rw [Option.bind_eq_some_iff] at hg
    obtain ⟨o, h1, h2⟩ := hg
    obtain ⟨C, ow⟩ := get_ow S1.sl ft h1
    have e := intO_ok ow h2
    subst e
    obtain ⟨A2, S2, m⟩ := S1.tail
    exact ⟨⟨i, rfl⟩, z _ H1 A2 ⟨.so (A := []) (.im (.int _)) S2.sl, S2.nd, S2.dj, S2.ft⟩ trivial (F1.sub m)⟩
theorem x_sl11 (ha : PE X a (tX G W f)) (hl : PE X l (tX G W g)) (hu : PE X u (tX G W h)) (hK : X.K = G.K := by rfl) : PE X (.Subscript a (.Slice (some l) (some u) none p2) pos) (tX G W (fP sl11 (fCons f (fCons (fInt g) (fCons h fNil))))) :=
  peW (L2.pe_slice (sl_lt hK) ha (po_some hl) (po_some hu)) fun s H Q z =>
    tX_imp (tl_cons (run_prim pr_sl11 z)) fun v H1 z1 => tX_imp (tX_fInt (tl_cons z1)) fun w H2 ⟨⟨i, e⟩, z2⟩ => ⟨i, e, tX_imp (tl_cons z2) fun u H3 z3 => by
      obtain ⟨i', j, e1, e2, q⟩ := tl_nil z3 v w u rfl
      rw [e] at e1; cases e1
      exact ⟨j, e2, q⟩⟩
end
end
end PV

set_option Elab.async false
set_option linter.all false
set_option maxRecDepth 100000
set_option maxHeartbeats 4000000
/-! PVm: calls of defs, comprehensions as they stand in a text, writes. -/
namespace PV
open PySem L2

section
variable {X : Cx} {W : WX} {G : Cl} {B : List Nat}
/-! ### f(a, ..) -/
def LenIs (g : Env → Res (List AO)) (m : Nat) : Prop := ∀ as e e1, g e = .ok as e1 → as.length = m
theorem len_nil : LenIs fNil 0 := fun as e e1 h => by cases h; rfl
theorem len_cons {f : Env → Res AO} {g : Env → Res (List AO)} {m : Nat} (h : LenIs g m) : LenIs (fCons f g) (m + 1) := fun as e e1 q => by
  unfold fCons at q
  cases hf : f e with
  | no => rw [hf] at q; cases q
  | er x e' => rw [hf] at q; cases q
  | ok a e2 =>
    rw [hf] at q
    dsimp only [Res.bind] at q
    cases hg : g e2 with
    | no => rw [hg] at q; cases q
    | er x e' => rw [hg] at q; cases q
    | ok as' e3 =>
      rw [hg] at q
      cases q
      simp [h as' e2 e1 hg]
/-- a def of the program, worth Ff -/
structure Def (P : Program) (w : World) (G : Cl) (mg : Str → Option Value) (base : Heap) (x : Str) (k n : Nat) (Ff : List O → FRes) : Prop where
  ex : ∃ (f : Addr) (fd : FuncData) (ps : List Str), FnG P w G.K mg base k f fd ps (SpF G n Ff) ∧ mg x = some (.ref f) ∧ PySem.W.keepIn G.K (.ref f) = true ∧ Binds G.K fd ps [] ∧ ps.length = n
theorem px_call {x : Str} {k n : Nat} {Ff : List O → FRes} (ms : List Md) {g : Env → Res (List AO)} {ex : Expr} {es : List Expr} {p pos : Pos} (D : Def X.prog X.w G X.mg X.base x k n Ff) (hr : RmG k X.A) (tk : Takes X W) (hg : Gl X x) (ha : PA X (ex :: es) (tL G W g)) (hl : LenIs g n)
    (hdb : (x == ("__debug__" : Str)) = false := by decide) (he : starEach (ex :: es) X.env = (false, eval ex X.env) :: starEach es X.env := by rfl) (hpl : (backTo pos (starEach es X.env)).any (·.1) = false := by rfl) (hK : X.K = G.K := by rfl) :
    PE X (.Call (.Name x p) (ex :: es) [] pos) (tX G W (fCall Ff ms [] g)) := by
  obtain ⟨f, fd, ps, F, hm, hk, hb, hn⟩ := D.ex
  rw [← hK] at F hk hb
  refine peW (pe_callG (dvs := []) F hr hg hm hk hb .nil tk ha hdb he hpl) fun s H Q h => ?_
  have q := run_call (n := n) (dvs := []) (fun H L => .nil) h fun as e e1 ho => by rw [List.length_nil, Nat.add_zero]; exact hl as e e1 ho
  exact q
def fCall0 (Ff : List O → FRes) : Env → Res AO := fun e => match Ff [] with
  | .ok o _ => .ok (.v o) e
  | .er x _ => .er x e
  | .no => .no
theorem px_call0 {x : Str} {k : Nat} {Ff : List O → FRes} {p pos : Pos} (D : Def X.prog X.w G X.mg X.base x k 0 Ff) (hr : RmG k X.A) (tk : Takes X W) (hg : Gl X x) (hdb : (x == ("__debug__" : Str)) = false := by decide) (hK : X.K = G.K := by rfl) :
    PE X (.Call (.Name x p) [] [] pos) (tX G W (fCall0 Ff)) := by
  obtain ⟨f, fd, ps, F, hm, hk, hb, hn⟩ := D.ex
  rw [← hK] at F hk hb
  refine peW (pe_call0G (dvs := []) F hr hg hm hk hb .nil tk hdb) fun s H Q ⟨R, e, A, S, z⟩ => ?_
  unfold fCall0 at z
  refine ⟨rfl, fun a => R a ∨ a ∈ A, [], [], ⟨.nil, List.nodup_nil, fun a m => (by cases m), fun a h => h.elim (S.ft a) (S.dom a)⟩, ?_⟩
  cases hF : Ff [] with
  | no => rw [hF] at z; cases z
  | er x os =>
    rw [hF] at z
    intro c d H' A' S' r F'
    have S4 : SR G R H' ([] ++ s) ([] ++ e) ([] ++ A) ∧ Fr0 H ([] ++ A) H' ([] ++ A) := by
      obtain ⟨A2, S2, m2⟩ : ∃ A2, SR G (fun a => R a ∨ a ∈ A) H' ([] : St) [] A2 ∧ ∀ a ∈ A2, a ∈ A' := by
        have S3 : SR G (fun a => R a ∨ a ∈ A) H' ([] ++ []) ([] ++ os.map some) A' := S'
        exact SR.init rfl S3
      have S5 : SR G (fun a => R a ∨ a ∈ A) H' ([] : St) [] [] := ⟨.nil, List.nodup_nil, fun a m => (by cases m), S2.ft⟩
      exact SR.unhead (A1 := []) (by simpa using S.sl) S.nd S.dj S5 (fun a m => by cases m) (F'.sub fun a m => by cases m)
    refine z c d H' _ S4.1 (r.less fun a h => ?_) S4.2
    rcases h with h | h
    · exact .inr (.inr (by simpa using h))
    · exact .inr (.inl h)
  | ok o os =>
    rw [hF] at z
    intro v H' A' S' F'
    obtain ⟨A2, S2, m2⟩ : ∃ A2, SR G (fun a => R a ∨ a ∈ A) H' [some v] [some o] A2 ∧ ∀ a ∈ A2, a ∈ A' := by
      have S3 : SR G (fun a => R a ∨ a ∈ A) H' ([some v] ++ []) ([some o] ++ os.map some) A' := S'
      exact SR.init rfl S3
    have S4 : SR G R H' ([some v] ++ s) ([some o] ++ e) (A2 ++ A) ∧ Fr0 H ([] ++ A) H' (A2 ++ A) := SR.unhead (A1 := []) (by simpa using S.sl) S.nd S.dj S2 (fun a m => by cases m) (F'.sub m2)
    exact z v H' _ S4.1 trivial S4.2

/-! ### comprehensions -/
section
variable {elt tg iter a b : Expr} {ifs : List Expr} {scope : Scope} {own : List (Str × Nat)} {pos p pos' spos : Pos} {g : TG} {t : O → Env → Option Env} {cond : Env → Res Bool} {f fe : Env → Res AO} {gl : Env → Res (List AO)} {i : Nat} {y : Str} {py : Pos}
abbrev BlkG (X : Cx) (scope : Scope) (P : Cx → Prop) : Prop := ∀ (s : Shared) (H : Hp) (C : Addr) (cl : List (Str × Addr)) (fp : List Addr), P (X.blk s H scope (compEnvC scope cl C X.env) fp)
theorem px_lcL (hc : X.calm = true) (hN : X.N.Nodup) (hi : PE X iter (tX G W f)) (ok : BlkOk X.N X.env.scope scope own) (hg : BlkG X scope fun Y => PG Y tg g) (htg : TGk G (keepW (own.map (·.2))) g t) (ht : BlkG X scope fun Y => PTs Y ifs (tT G W0 cond)) (he : BlkG X scope fun Y => PE Y elt (tX G W0 fe))
    (hs : ∀ x, foldedSetIterable iter X.env x = pure x := by intro _; rfl) (hK : X.K = G.K := by rfl) : PE X (.ListComp elt [⟨tg, iter, ifs, 0⟩] scope pos) (tX G W (fLcOn itL (own.map (·.2)) t cond f fe)) :=
  peW (pe_lc hc hN (pi_list hi) ok hg ht he hs) fun s H Q h => run_lc htg hK h
theorem px_lcT (hc : X.calm = true) (hN : X.N.Nodup) (hi : PE X iter (tX G W f)) (ok : BlkOk X.N X.env.scope scope own) (hg : BlkG X scope fun Y => PG Y tg g) (htg : TGk G (keepW (own.map (·.2))) g t) (ht : BlkG X scope fun Y => PTs Y ifs (tT G W0 cond)) (he : BlkG X scope fun Y => PE Y elt (tX G W0 fe))
    (hs : ∀ x, foldedSetIterable iter X.env x = pure x := by intro _; rfl) (hK : X.K = G.K := by rfl) : PE X (.ListComp elt [⟨tg, iter, ifs, 0⟩] scope pos) (tX G W (fLcOn itT (own.map (·.2)) t cond f fe)) :=
  peW (pe_lc hc hN (pi_tup hi) ok hg ht he hs) fun s H Q h => run_lcT htg hK h
theorem px_lcR1 (hc : X.calm = true) (hN : X.N.Nodup) (hgl : Gl X "range") (hm : X.mg "range" = none) (hi : PA X [a] (tL G W gl)) (ok : BlkOk X.N X.env.scope scope own) (hg : BlkG X scope fun Y => PG Y tg g) (htg : TGk G (keepW (own.map (·.2))) g t) (ht : BlkG X scope fun Y => PTs Y ifs (tT G W0 cond)) (he : BlkG X scope fun Y => PE Y elt (tX G W0 fe))
    (hs : starEach [a] X.env = [(false, eval a X.env)] := by rfl) : PE X (.ListComp elt [⟨tg, .Call (.Name "range" p) [a] [] pos', ifs, 0⟩] scope pos) (tX G W (fLcR rng1 (own.map (·.2)) t cond gl fe)) :=
  peW (pe_lc hc hN (pi_range1 hgl hm hi hs) ok hg ht he) fun s H Q h => run_lcR1 htg h
theorem px_lcR2 (hc : X.calm = true) (hN : X.N.Nodup) (hgl : Gl X "range") (hm : X.mg "range" = none) (hi : PA X [a, b] (tL G W gl)) (ok : BlkOk X.N X.env.scope scope own) (hg : BlkG X scope fun Y => PG Y tg g) (htg : TGk G (keepW (own.map (·.2))) g t) (ht : BlkG X scope fun Y => PTs Y ifs (tT G W0 cond)) (he : BlkG X scope fun Y => PE Y elt (tX G W0 fe))
    (hs : starEach [a, b] X.env = [(false, eval a X.env), (false, eval b X.env)] := by rfl) (hs2 : starEach [b] X.env = [(false, eval b X.env)] := by rfl) : PE X (.ListComp elt [⟨tg, .Call (.Name "range" p) [a, b] [] pos', ifs, 0⟩] scope pos) (tX G W (fLcR rng2 (own.map (·.2)) t cond gl fe)) :=
  peW (pe_lc hc hN (pi_range2 hgl hm hi hs hs2) ok hg ht he) fun s H Q h => run_lcR2 htg h
/-- name = [..] on one row -/
theorem run_setLc {te : TE} {fx : Env → Res AO} {D : Ends} {s : St} {H : Hp} (hB : i ∉ B) (k : ∀ Q, tX G W fx s H Q → te s H Q) (h : tS G W B (fAsg fx (sName i)) D s H) : tAsg te (gName i) D s H := k _ (run_asg (tg_name hB) h)
theorem qp_lcL (hB : i ∉ B) (hc : X.calm = true) (hN : X.N.Nodup) (hy : X.N[i]? = some y) (hyl : X.env.scope.names.lookup y = some .local) (hsw : swapsWith (.ListComp elt [⟨tg, iter, ifs, 0⟩] scope pos) (some (.Name y py)) spos.line X.env = pure true)
    (hi : PE X iter (tX G W f)) (ok : BlkOk X.N X.env.scope scope own) (hg : BlkG X scope fun Y => PG Y tg g) (htg : TGk G (keepW (own.map (·.2))) g t) (ht : BlkG X scope fun Y => PTs Y ifs (tT G W0 cond)) (he : BlkG X scope fun Y => PE Y elt (tX G W0 fe))
    (hs : ∀ x, foldedSetIterable iter X.env x = pure x := by intro _; rfl) (hK : X.K = G.K := by rfl) : PS X (.Assign [.Name y py] (.ListComp elt [⟨tg, iter, ifs, 0⟩] scope pos) spos) (tS G W B (fAsg (fLcOn itL (own.map (·.2)) t cond f fe) (sName i))) :=
  psW (ps_setLc hc hN hy hyl hsw (pi_list hi) ok hg ht he hs) fun D s H h => run_setLc hB (fun Q q => run_lc htg hK q) h
theorem qp_lcT (hB : i ∉ B) (hc : X.calm = true) (hN : X.N.Nodup) (hy : X.N[i]? = some y) (hyl : X.env.scope.names.lookup y = some .local) (hsw : swapsWith (.ListComp elt [⟨tg, iter, ifs, 0⟩] scope pos) (some (.Name y py)) spos.line X.env = pure true)
    (hi : PE X iter (tX G W f)) (ok : BlkOk X.N X.env.scope scope own) (hg : BlkG X scope fun Y => PG Y tg g) (htg : TGk G (keepW (own.map (·.2))) g t) (ht : BlkG X scope fun Y => PTs Y ifs (tT G W0 cond)) (he : BlkG X scope fun Y => PE Y elt (tX G W0 fe))
    (hs : ∀ x, foldedSetIterable iter X.env x = pure x := by intro _; rfl) (hK : X.K = G.K := by rfl) : PS X (.Assign [.Name y py] (.ListComp elt [⟨tg, iter, ifs, 0⟩] scope pos) spos) (tS G W B (fAsg (fLcOn itT (own.map (·.2)) t cond f fe) (sName i))) :=
  psW (ps_setLc hc hN hy hyl hsw (pi_tup hi) ok hg ht he hs) fun D s H h => run_setLc hB (fun Q q => run_lcT htg hK q) h
theorem qp_lcR1 (hB : i ∉ B) (hc : X.calm = true) (hN : X.N.Nodup) (hy : X.N[i]? = some y) (hyl : X.env.scope.names.lookup y = some .local) (hsw : swapsWith (.ListComp elt [⟨tg, .Call (.Name "range" p) [a] [] pos', ifs, 0⟩] scope pos) (some (.Name y py)) spos.line X.env = pure true)
    (hgl : Gl X "range") (hm : X.mg "range" = none) (hi : PA X [a] (tL G W gl)) (ok : BlkOk X.N X.env.scope scope own) (hg : BlkG X scope fun Y => PG Y tg g) (htg : TGk G (keepW (own.map (·.2))) g t) (ht : BlkG X scope fun Y => PTs Y ifs (tT G W0 cond)) (he : BlkG X scope fun Y => PE Y elt (tX G W0 fe))
    (hs : starEach [a] X.env = [(false, eval a X.env)] := by rfl) : PS X (.Assign [.Name y py] (.ListComp elt [⟨tg, .Call (.Name "range" p) [a] [] pos', ifs, 0⟩] scope pos) spos) (tS G W B (fAsg (fLcR rng1 (own.map (·.2)) t cond gl fe) (sName i))) :=
  psW (ps_setLc hc hN hy hyl hsw (pi_range1 hgl hm hi hs) ok hg ht he) fun D s H h => run_setLc hB (fun Q q => run_lcR1 htg q) h
theorem qp_lcR2 (hB : i ∉ B) (hc : X.calm = true) (hN : X.N.Nodup) (hy : X.N[i]? = some y) (hyl : X.env.scope.names.lookup y = some .local) (hsw : swapsWith (.ListComp elt [⟨tg, .Call (.Name "range" p) [a, b] [] pos', ifs, 0⟩] scope pos) (some (.Name y py)) spos.line X.env = pure true)
    (hgl : Gl X "range") (hm : X.mg "range" = none) (hi : PA X [a, b] (tL G W gl)) (ok : BlkOk X.N X.env.scope scope own) (hg : BlkG X scope fun Y => PG Y tg g) (htg : TGk G (keepW (own.map (·.2))) g t) (ht : BlkG X scope fun Y => PTs Y ifs (tT G W0 cond)) (he : BlkG X scope fun Y => PE Y elt (tX G W0 fe))
    (hs : starEach [a, b] X.env = [(false, eval a X.env), (false, eval b X.env)] := by rfl) (hs2 : starEach [b] X.env = [(false, eval b X.env)] := by rfl) : PS X (.Assign [.Name y py] (.ListComp elt [⟨tg, .Call (.Name "range" p) [a, b] [] pos', ifs, 0⟩] scope pos) spos) (tS G W B (fAsg (fLcR rng2 (own.map (·.2)) t cond gl fe) (sName i))) :=
  psW (ps_setLc hc hN hy hyl hsw (pi_range2 hgl hm hi hs hs2) ok hg ht he) fun D s H h => run_setLc hB (fun Q q => run_lcR2 htg q) h
end

/-! ### writes -/
theorem zip_set {α β : Type} : ∀ (xs : List α) (ys : List β) (j : Nat) (x : α) (y : β), (xs.set j x).zip (ys.set j y) = (xs.zip ys).set j (x, y)
  | [], _, _, _, _ => by simp
  | _ :: _, [], _, _, _ => by simp
  | a :: xs, b :: ys, 0, x, y => by simp
  | a :: xs, b :: ys, j + 1, x, y => by simp [zip_set xs ys j x y]
theorem perm_set {α : Type} : ∀ {l : List α} {j : Nat} {x y : α}, l[j]? = some y → (x :: l).Perm (y :: l.set j x)
  | [], j, x, y, h => by simp at h
  | a :: l, 0, x, y, h => by simp at h; subst h; simpa using List.Perm.swap a x l
  | a :: l, j + 1, x, y, h => by
    have := perm_set (l := l) (j := j) (x := x) (y := y) (by simpa using h)
    rw [List.set_cons_succ]
    exact (List.Perm.swap a x l).trans ((this.cons a).trans (List.Perm.swap y a _))
/-- what stands in slot i as a list of its own -/
theorem SR.own {R : Addr → Prop} {H : Hp} {s : St} {e : Env} {A : List Addr} {i : Nat} {os : List O} (S : SR G R H s e A) (h : e[i]? = some (some (.ls os))) : ∃ p xs, s[i]? = some (some (.ref p)) ∧ H p = some (.lst xs) ∧ xs.length = os.length := by
  obtain ⟨v, A1, A2, A3, h1, _, h3, _⟩ := SlA.at S.sl h
  cases h3 with
  | ls h4 r => exact ⟨_, _, h1, h4, r.length⟩
/-- x[e] = .. -/
def sSub (i : Nat) (fi : Env → Res AO) : O → Env → Option Env := fun o e => match slotO e i with
  | none => none
  | some _ => match fi e with
    | .ok a e1 => match (a.get e1).bind intO with
      | none => none
      | some k => match slotO e1 i with
        | some (.ls os) => (ixN os.length k).map fun j => e1.set i (some (.ls (os.set j o)))
        | _ => none
    | _ => none
theorem tg_sub {K : St → St → Prop} {i : Nat} {fi : Env → Res AO} (hr : ∀ s, K s s) : TGk G K (gSub (tX G W0 (fN i)) (tX G W0 fi) rSetL) (sSub i fi) := by
  intro R s H A v o e e' Q S h k
  unfold sSub at h
  cases h0 : slotO e i with
  | none => rw [h0] at h; cases h
  | some o0 =>
    rw [h0] at h
    dsimp only at h
    have g0 := slotO_eq h0
    obtain ⟨A1, A2, rfl, r1, S1⟩ := SR.frame (xs := [some v]) (cs := [some o]) rfl S
    obtain ⟨n1, n2, n12⟩ := List.nodup_append.mp S.nd
    refine ⟨_, e, A2, S1, ?_⟩
    have hN : fN i e = .ok (.s i) e := by unfold fN; rw [g0]
    rw [hN]
    intro x H1 A3 S2 ft F1
    have hx : s[i]? = some (some x) := ft
    obtain ⟨A4, S3, m4⟩ := S2.tail
    refine ⟨_, e, A4, S3, ?_⟩
    cases hf : fi e with
    | no => rw [hf] at h; cases h
    | er x e' => rw [hf] at h; cases h
    | ok a e1 =>
      rw [hf] at h
      dsimp only at h
      intro y H2 A5 S4 ft2 F2
      cases hk : (a.get e1).bind intO with
      | none => rw [hk] at h; cases h
      | some kk =>
        rw [hk] at h
        dsimp only at h
        rw [Option.bind_eq_some_iff] at hk
        obtain ⟨oi, hg, hi⟩ := hk
        obtain ⟨C, ow⟩ := get_ow S4.sl ft2 hg
        have ey := intO_ok ow hi
        subst ey
        obtain ⟨A6, S5, m6⟩ := S4.tail
        cases hs : slotO e1 i with
        | none => rw [hs] at h; cases h
        | some o1 =>
          rw [hs] at h
          cases o1 with
          | im d => cases h
          | ob _ _ _ => cases h
          | ls os =>
            dsimp only at h
            rw [Option.map_eq_some_iff] at h
            obtain ⟨j, hj, rfl⟩ := h
            have g1 := slotO_eq hs
            obtain ⟨p, xs, hp1, hp2, hp3⟩ := S5.own g1
            rw [hx] at hp1; cases hp1
            have Fall : Fr0 H A2 H2 A6 := ((F1.sub m4).trans F2).sub m6
            obtain ⟨S6, F6⟩ := SR.unframe r1 n1 (fun a m => S.dj a (List.mem_append_left _ m)) S5 (fun a m z => n12 a z a m rfl) (fun a m => S.dj a (List.mem_append_right _ m)) Fall
            refine ⟨p, xs, kk, j, rfl, rfl, hp2, by rw [hp3]; exact hj, ?_⟩
            have hjl : j < os.length := (ixN_seq hj).2.1
            have hz : (xs.zip os)[j]? = some (xs[j]'(by omega), os[j]) := by
              rw [List.getElem?_eq_getElem (by simp [hp3, hjl])]; simp
            obtain ⟨A7, S7, F7⟩ := SR.write (ts := [v]) (tos := [o]) (ts' := []) (tos' := []) (xs' := xs.set j v) (os' := os.set j o) (exv := []) (exd := []) (l := (xs[j]'(by omega), os[j]) :: (xs.zip os).set j (v, o)) S6 (i := i) g1 hx hp2 rfl .nil
              (by simpa using perm_set hz) (by rw [zip_set]; simpa using List.Sublist.cons _ (List.Sublist.refl _)) rfl (by simp [hp3])
            exact k s _ _ S7 (hr s) (F6.trans F7)
/-- the store's own rule -/
theorem pg_item {i : Nat} {fi : Env → Res AO} {b ix : Expr} {pos : Pos} (hb : PE X b (tX G W0 (fN i))) (hi : PE X ix (tX G W0 fi)) (ha : ∀ v, assign (.Subscript b ix pos) X.env v = (do
      let ov ← holding [v] (eval b X.env)
      let iv ← holding [v, ov] (eval ix X.env)
      standAt pos
      holding [v, ov, iv] (setItem ov iv v)
      release [v, ov, iv] []) := by intro _; rfl) : PG X (.Subscript b ix pos) (gSub (tX G W0 (fN i)) (tX G W0 fi) rSetL) := pg_sub hb hi set_list ha
/-- x.append(e) -/
def fApp (i : Nat) (g : Env → Res (List AO)) : Env → Res AO := fun e => match slotO e i with
  | some (.ls _) => (g e).bind fun as e1 => match pass (List.replicate as.length .el) as e1 with
    | some ([o], e2, _) => match slotO e2 i with
      | some (.ls os) => if os.length < sizeLine then .ok (.v (.im .non)) (e2.set i (some (.ls (os ++ [o])))) else .no
      | _ => .no
    | _ => .no
  | _ => .no
theorem x_app {i : Nat} {g : Env → Res (List AO)} {b ex : Expr} {apos cpos : Pos} (hb : PE X b (tX G W (fN i))) (ha : PA X [ex] (tL G W g)) (hbase : attributeBase b "append" X.env (eval b X.env) = eval b X.env := by rfl)
    (hfew : ((backTo cpos (starEach [ex] X.env)).all (fun x => !x.1) && (backToKw cpos (keywordEach [] X.env)).all (fun x => x.1.isSome) && decide ([ex].length + ([] : List Keyword).length + (if ([] : List Keyword).isEmpty then 0 else 1) < 30)) = true := by rfl)
    (hline : (apos.endLine == cpos.line) = true := by rfl) (hs : starEach [ex] X.env = (false, eval ex X.env) :: starEach [] X.env := by rfl) (hplain : (backTo cpos (starEach [] X.env)).any (·.1) = false := by rfl) :
    PE X (.Call (.Attribute b "append" apos) [ex] [] cpos) (tX G W (fApp i g)) := by
  refine peW (L2.pe_bm PySem.F.plainAttrs_list PySem.F.slot_list_append PySem.F.type_list_append mt_append hb ha hbase hfew hline hs hplain) fun s H Q ⟨R, e, A, S, z⟩ => ?_
  refine ⟨R, e, A, S, ?_⟩
  unfold fApp at z
  cases h0 : slotO e i with
  | none => rw [h0] at z; cases z
  | some o0 =>
    rw [h0] at z
    cases o0 with
    | im _ => cases z
    | ob _ _ _ => cases z
    | ls os0 =>
      dsimp only at z
      have g0 := slotO_eq h0
      have hN : fN i e = .ok (.s i) e := by unfold fN; rw [g0]
      rw [hN]
      intro x H1 A1 S1 ft F1
      have hx : s[i]? = some (some x) := ft
      obtain ⟨A2, S2, m2⟩ := S1.tail
      obtain ⟨p0, xs0, q1, q2, _⟩ := S2.own g0
      rw [hx] at q1; cases q1
      refine ⟨.inl ⟨rfl, xs0, .inl (.inl q2)⟩, R, e, A2, S2, ?_⟩
      cases hg : g e with
      | no => rw [hg] at z; cases z
      | er x e' => rw [hg] at z; exact erE.sub z (fun _ h => h) (F1.sub m2)
      | ok as e1 =>
        rw [hg] at z
        dsimp only [Res.bind] at z
        intro vs H2 A3 S3 hl fts F3
        cases hp : pass (List.replicate as.length .el) as e1 with
        | none => rw [hp] at z; cases z
        | some r =>
          obtain ⟨os1, e2, ws⟩ := r
          rw [hp] at z
          obtain ⟨A4, S4, m4, l4, _, _, _⟩ := SR.passes [] [] rfl S3 hl fts hp
          have S4 : SR G R H2 (vs.map some ++ s) (os1.map some ++ e2) A4 := S4
          match os1, l4, S4, z with
          | [], _, _, z => cases z
          | _ :: _ :: _, _, _, z => cases z
          | [o], l4, S4, z =>
            dsimp only at z
            match vs, l4 with
            | [y], _ =>
              cases hs2 : slotO e2 i with
              | none => rw [hs2] at z; cases z
              | some o2 =>
                rw [hs2] at z
                cases o2 with
                | im _ => cases z
                | ob _ _ _ => cases z
                | ls os =>
                  dsimp only at z
                  have g2 := slotO_eq hs2
                  obtain ⟨A5, S5, m5⟩ := SR.drop (xs := [y].map some) (cs := [o].map some) rfl S4
                  obtain ⟨p, xs, hp1, hp2, hp3⟩ := S5.own g2
                  rw [hx] at hp1; cases hp1
                  by_cases hz : os.length < sizeLine
                  · rw [if_pos hz] at z
                    refine ⟨_, xs, y, rfl, rfl, hp2, by omega, ?_⟩
                    obtain ⟨A6, S6, F6⟩ := SR.write (ts' := []) (tos' := []) (xs' := xs ++ [y]) (os' := os ++ [o]) (exv := []) (exd := []) (l := xs.zip os ++ [(y, o)]) S4 (i := i) g2 hx hp2 rfl .nil
                      (by simpa using List.perm_append_comm (l₁ := [(y, o)]) (l₂ := xs.zip os)) (by rw [List.zip_append hp3]; simp) rfl (by simp [hp3])
                    exact z .non _ A6 ⟨.so (A := []) (.im .non) S6.sl, S6.nd, S6.dj, S6.ft⟩ trivial ((((F1.sub m2).trans F3).sub m4).trans F6)
                  · rw [if_neg hz] at z; cases z
end
end PV

set_option Elab.async false
set_option linter.all false
set_option maxRecDepth 100000
set_option maxHeartbeats 4000000
/-! PVn: built-in functions as they stand in a text. -/
namespace PV
open PySem L2

theorem u65 {A : Around} {k : Nat} (hr : RmG k A) : A.units + 65 < cLine := by have := hr.r.un; omega
section
variable {X : Cx} {W : WX} {G : Cl} {B : List Nat} {g : Env → Res (List AO)} {ex : Expr} {es : List Expr} {p pos : Pos}
theorem x_len (hm : X.mg "len" = none) (ha : PA X (ex :: es) (tL G W g)) (hg : Gl X "len" := by rfl) (he : starEach (ex :: es) X.env = (false, eval ex X.env) :: starEach es X.env := by rfl) (hpl : (backTo pos (starEach es X.env)).any (·.1) = false := by rfl) (hK : X.K = G.K := by rfl) :
    PE X (.Call (.Name "len" p) (ex :: es) [] pos) (tX G W (fP oLen g)) := px_bltf pr_len (hK ▸ call_len) hg hm PySem.boot_len ha (by decide) (by decide) he hpl
theorem x_sum (hc : X.calm = true) (hm : X.mg "sum" = none) (ha : PA X (ex :: es) (tL G W g)) (hg : Gl X "sum" := by rfl) (he : starEach (ex :: es) X.env = (false, eval ex X.env) :: starEach es X.env := by rfl) (hpl : (backTo pos (starEach es X.env)).any (·.1) = false := by rfl) (hK : X.K = G.K := by rfl) :
    PE X (.Call (.Name "sum" p) (ex :: es) [] pos) (tX G W (fP oSum g)) := px_bltf pr_sum (hK ▸ cr_sum hc) hg hm (by decide +kernel) ha (by decide) (by decide) he hpl
theorem x_max1 (hc : X.calm = true) (hm : X.mg "max" = none) (ha : PA X (ex :: es) (tL G W g)) (hg : Gl X "max" := by rfl) (he : starEach (ex :: es) X.env = (false, eval ex X.env) :: starEach es X.env := by rfl) (hpl : (backTo pos (starEach es X.env)).any (·.1) = false := by rfl) (hK : X.K = G.K := by rfl) :
    PE X (.Call (.Name "max" p) (ex :: es) [] pos) (tX G W (fP oMaxL g)) := px_bltf pr_maxL (hK ▸ cr_max hc) hg hm (by decide +kernel) ha (by decide) (by decide) he hpl
theorem x_min1 (hc : X.calm = true) (hm : X.mg "min" = none) (ha : PA X (ex :: es) (tL G W g)) (hg : Gl X "min" := by rfl) (he : starEach (ex :: es) X.env = (false, eval ex X.env) :: starEach es X.env := by rfl) (hpl : (backTo pos (starEach es X.env)).any (·.1) = false := by rfl) (hK : X.K = G.K := by rfl) :
    PE X (.Call (.Name "min" p) (ex :: es) [] pos) (tX G W (fP oMinL g)) := px_bltf pr_minL (hK ▸ cr_min hc) hg hm (by decide +kernel) ha (by decide) (by decide) he hpl
theorem x_max2 (hc : X.calm = true) (hm : X.mg "max" = none) (ha : PA X (ex :: es) (tL G W g)) (hg : Gl X "max" := by rfl) (he : starEach (ex :: es) X.env = (false, eval ex X.env) :: starEach es X.env := by rfl) (hpl : (backTo pos (starEach es X.env)).any (·.1) = false := by rfl) :
    PE X (.Call (.Name "max" p) (ex :: es) [] pos) (tX G W (fP oMax2 g)) := px_bltf pr_max2 (call_max2 hc) hg hm (by decide +kernel) ha (by decide) (by decide) he hpl
theorem x_min2 (hc : X.calm = true) (hm : X.mg "min" = none) (ha : PA X (ex :: es) (tL G W g)) (hg : Gl X "min" := by rfl) (he : starEach (ex :: es) X.env = (false, eval ex X.env) :: starEach es X.env := by rfl) (hpl : (backTo pos (starEach es X.env)).any (·.1) = false := by rfl) :
    PE X (.Call (.Name "min" p) (ex :: es) [] pos) (tX G W (fP oMin2 g)) := px_bltf pr_min2 (call_min2 hc) hg hm (by decide +kernel) ha (by decide) (by decide) he hpl
theorem x_int (hm : X.mg "int" = none) (ha : PA X (ex :: es) (tL G W g)) (hg : Gl X "int" := by rfl) (he : starEach (ex :: es) X.env = (false, eval ex X.env) :: starEach es X.env := by rfl) (hpl : (backTo pos (starEach es X.env)).any (·.1) = false := by rfl) :
    PE X (.Call (.Name "int" p) (ex :: es) [] pos) (tX G W (fP oInt g)) := px_bltt pr_int call_int1 hg hm (by decide +kernel) ha (by decide) (by decide) he hpl
/-! list(x), tuple(x) -/
def seqO (o : O) : Option (List D) := match lstD o with
  | some ds => some ds
  | none => tupD o
def oList : List O → Option O
  | [o] => (seqO o).map fun ds => .ls (ds.map O.im)
  | _ => none
theorem pr_list : Prim G (fun xs H Q => ∃ p ys, xs = [.ref p] ∧ (SqL G.K H p ys ∨ SqT G.K H p ys) ∧ ∀ l, H l = none → Q (.ref l) (upd H l (.lst ys))) oList := by
  intro R s e A E H vs os o Q S r h k
  unfold oList at h
  split at h
  · obtain ⟨v, C', rfl, r1⟩ := ow1 r
    rw [Option.map_eq_some_iff] at h
    obtain ⟨ds, h1, rfl⟩ := h
    unfold seqO at h1
    split at h1
    · rename_i ds' h2
      cases h1
      obtain ⟨a, ws, rfl, h3, im⟩ := lstD_ok r1 h2
      refine ⟨a, ws, rfl, .inl (.inl h3), fun l nl => ?_⟩
      obtain ⟨S2, F2⟩ := S.newi nl im
      exact k _ _ _ S2 F2
    · obtain ⟨a, ws, rfl, h3, im⟩ := tupD_ok r1 h1
      refine ⟨a, ws, rfl, .inr h3, fun l nl => ?_⟩
      obtain ⟨S2, F2⟩ := S.newi nl im
      exact k _ _ _ S2 F2
  · cases h
theorem x_list (hm : X.mg "list" = none) (ha : PA X (ex :: es) (tL G W g)) (hg : Gl X "list" := by rfl) (he : starEach (ex :: es) X.env = (false, eval ex X.env) :: starEach es X.env := by rfl) (hpl : (backTo pos (starEach es X.env)).any (·.1) = false := by rfl) (hK : X.K = G.K := by rfl) :
    PE X (.Call (.Name "list" p) (ex :: es) [] pos) (tX G W (fP oList g)) := px_bltt pr_list (hK ▸ call_list_of) hg hm (by decide +kernel) ha (by decide) (by decide) he hpl
def oTuple : List O → Option O
  | [o] => (seqO o).map fun ds => .im (.tup ds)
  | _ => none
theorem pr_tuple : Prim G (fun xs H Q => ∃ p ys, xs = [.ref p] ∧ ((SqL G.K H p ys ∧ ∀ l, H l = none → Q (.ref l) (upd H l (.tup ys))) ∨ (SqT G.K H p ys ∧ Q (.ref p) H))) oTuple := by
  intro R s e A E H vs os o Q S r h k
  unfold oTuple at h
  split at h
  · obtain ⟨v, C', rfl, r1⟩ := ow1 r
    rw [Option.map_eq_some_iff] at h
    obtain ⟨ds, h1, rfl⟩ := h
    unfold seqO at h1
    split at h1
    · rename_i ds' h2
      cases h1
      obtain ⟨a, ws, rfl, h3, im⟩ := lstD_ok r1 h2
      refine ⟨a, ws, rfl, .inl ⟨.inl h3, fun l nl => ?_⟩⟩
      obtain ⟨S2, F2⟩ := S.newd (u := .tup ws) (d := .tup ds) nl fun L hL => .tup (.inl ⟨.inl upd_same, fun z => by
            rcases hL _ z with z | z
            · obtain ⟨u, hu⟩ := S.dom _ z; rw [nl] at hu; cases hu
            · obtain ⟨u, hu⟩ := S.ft _ z; rw [nl] at hu; cases hu⟩) ((im.go (Go.less hL)).go (go_push nl))
      exact k _ _ _ S2 F2
    · cases r1 with
      | ls _ _ => simp [tupD] at h1
      | ob _ _ _ => simp [tupD] at h1
      | im i1 => cases i1 with
        | tup l i2 =>
          simp [tupD] at h1; subst h1
          exact ⟨_, _, rfl, .inr ⟨l.sq, k _ _ _ ⟨.so (A := []) (.im (.tup l i2)) S.sl, S.nd, S.dj, S.ft⟩ Fr.refl⟩⟩
        | _ => simp [tupD] at h1
  · cases h
theorem x_tuple (hm : X.mg "tuple" = none) (ha : PA X (ex :: es) (tL G W g)) (hg : Gl X "tuple" := by rfl) (he : starEach (ex :: es) X.env = (false, eval ex X.env) :: starEach es X.env := by rfl) (hpl : (backTo pos (starEach es X.env)).any (·.1) = false := by rfl) (hK : X.K = G.K := by rfl) :
    PE X (.Call (.Name "tuple" p) (ex :: es) [] pos) (tX G W (fP oTuple g)) := px_bltt pr_tuple (hK ▸ call_tuple_of) hg hm (by decide +kernel) ha (by decide) (by decide) he hpl
/-! a, b = x, y -/
def fPar (i j : Nat) (g : Env → Res (List AO)) : Env → SRes := fun e => match g e with
  | .er x e1 => .er x e1
  | .no => .no
  | .ok as e1 => match pass (List.replicate as.length .el) as e1 with
    | some ([o1, o2], e2, _) => if i < e2.length ∧ j < e2.length then .nx ((e2.set i (some o1)).set j (some o2)) else .no
    | _ => .no
theorem SR.top2 {R : Addr → Prop} {H : Hp} {s : St} {e : Env} {A : List Addr} {v w : V} {o1 o2 : O} {i j : Nat} (S : SR G R H (some v :: some w :: s) (some o1 :: some o2 :: e) A) (hi : i < s.length) (hj : j < s.length) :
    ∃ A', SR G R H ((s.set i (some v)).set j (some w)) ((e.set i (some o1)).set j (some o2)) A' ∧ ∀ a ∈ A', a ∈ A := by
  obtain ⟨A1, S1, m1⟩ := SR.store (s := some w :: s) (e := some o2 :: e) (i := i + 1) S (by simpa using hi)
  simp only [List.set_cons_succ] at S1
  obtain ⟨A2, S2, m2⟩ := SR.store (i := j) S1 (by simpa using hj)
  exact ⟨A2, S2, fun a m => m1 a (m2 a m)⟩
theorem qp_par (i j : Nat) {x y : Str} {a b : Expr} {px py pt : Pos} {kt k2 : Nat} {pt2 spos : Pos} (hBi : i ∉ B) (hBj : j ∉ B) (hc : X.calm = true) (hN : X.N.Nodup) (hi : X.N[i]? = some x) (hj : X.N[j]? = some y) (hij : i ≠ j)
    (hx : X.env.scope.names.lookup x = some .local) (hy : X.env.scope.names.lookup y = some .local) (ha : PA X [a, b] (tL G W g)) (hw : swappedStores [.Tuple [.Name x px, .Name y py] kt pt] (.Tuple [a, b] k2 pt2) X.env = pure (some [x, y]) := by rfl)
    (hs : swapsWithSole [.Tuple [.Name x px, .Name y py] kt pt] (.Tuple [a, b] k2 pt2) spos.line X.env = pure false := by rfl) : PS X (.Assign [.Tuple [.Name x px, .Name y py] kt pt] (.Tuple [a, b] k2 pt2) spos) (tS G W B (fPar i j g)) := by
  refine psW (ps_par hc hN hi hj hij hx hy ha hw hs) fun D s H h => ?_
  refine run_args (k := fun as e1 => match pass (List.replicate as.length .el) as e1 with
    | some ([o1, o2], e2, _) => if i < e2.length ∧ j < e2.length then .nx ((e2.set i (some o1)).set j (some o2)) else .no
    | _ => .no) h fun R e1 as vs H1 A1 S1 hl ft z => ?_
  cases hp : pass (List.replicate as.length .el) as e1 with
  | none => rw [hp] at z; cases z
  | some r =>
    obtain ⟨os, e2, ws⟩ := r
    rw [hp] at z
    obtain ⟨A2, S2, m2, l2, _, _, _⟩ := SR.passes [] [] rfl S1 hl ft hp
    have S2 : SR G R H1 (vs.map some ++ s) (os.map some ++ e2) A2 := S2
    match os, l2, S2, z with
    | [], _, _, z => cases z
    | [_], _, _, z => cases z
    | _ :: _ :: _ :: _, _, _, z => cases z
    | [o1, o2], l2, S2, z =>
      match vs, l2 with
      | [v, w], _ =>
        dsimp only at z
        split at z
        · rename_i hlt
          have hs : s.length = e2.length := by
            have q := S2.len
            simp only [List.map_cons, List.map_nil, List.cons_append, List.nil_append, List.length_cons] at q
            omega
          obtain ⟨A3, S3, m3⟩ := SR.top2 (s := s) (i := i) (j := j) S2 (by omega) (by omega)
          exact ⟨v, w, rfl, z _ H1 A3 S3 ((keepB.set hBi).trans (keepB.set hBj)) (Fr.less fun a m => m2 a (m3 a m))⟩
        · cases z
end
end PV

set_option Elab.async false
set_option linter.all false
set_option maxRecDepth 100000
set_option maxHeartbeats 4000000
/-! evaluation: each reading by what it reads, as rows for simp -/
namespace PV
open PySem L2
def Res.opt {α : Type} (o : Option α) (e : Env) : Res α := match o with
  | some a => .ok a e
  | none => .no
@[simp] theorem ropt_some {α : Type} (a : α) (e : Env) : Res.opt (some a) e = .ok a e := rfl
@[simp] theorem ropt_none {α : Type} (e : Env) : Res.opt (none : Option α) e = .no := rfl
def Res.on {α : Type} (r : Res α) (k : α → Env → SRes) : SRes := match r with
  | .ok a e => k a e
  | .er x e => .er x e
  | .no => .no
@[simp] theorem ron_ok {α : Type} (a : α) (e : Env) (k : α → Env → SRes) : (Res.ok a e).on k = k a e := rfl
@[simp] theorem ron_er {α : Type} (x : D) (e : Env) (k : α → Env → SRes) : (Res.er x e : Res α).on k = .er x e := rfl
@[simp] theorem ron_no {α : Type} (k : α → Env → SRes) : (Res.no : Res α).on k = .no := rfl
def Res.o {α : Type} (r : Res α) : Option (α × Env) := match r with
  | .ok a e => some (a, e)
  | _ => none
@[simp] theorem ro_ok {α : Type} (a : α) (e : Env) : (Res.ok a e).o = some (a, e) := rfl
@[simp] theorem ro_er {α : Type} (x : D) (e : Env) : (Res.er x e : Res α).o = none := rfl
@[simp] theorem ro_no {α : Type} : (Res.no : Res α).o = none := rfl
def SRes.seq (r : SRes) (g : Env → SRes) : SRes := match r with
  | .nx e => g e
  | r => r
@[simp] theorem sq_nx (e : Env) (g : Env → SRes) : (SRes.nx e).seq g = g e := rfl
@[simp] theorem sq_rt (o : O) (e : Env) (g : Env → SRes) : (SRes.rt o e).seq g = .rt o e := rfl
@[simp] theorem sq_bk (e : Env) (g : Env → SRes) : (SRes.bk e).seq g = .bk e := rfl
@[simp] theorem sq_ct (e : Env) (g : Env → SRes) : (SRes.ct e).seq g = .ct e := rfl
@[simp] theorem sq_er (x : D) (e : Env) (g : Env → SRes) : (SRes.er x e).seq g = .er x e := rfl
@[simp] theorem sq_no (g : Env → SRes) : SRes.no.seq g = .no := rfl
def SRes.opt (o : Option Env) : SRes := match o with
  | some e => .nx e
  | none => .no
@[simp] theorem sopt_some (e : Env) : SRes.opt (some e) = .nx e := rfl
@[simp] theorem sopt_none : SRes.opt none = .no := rfl
/-- one turn of a loop: on with the rest, or out -/
def SRes.lp (r : SRes) (g : Env → SRes) : SRes := match r with
  | .nx e => g e
  | .ct e => g e
  | .bk e => .nx e
  | r => r
@[simp] theorem lp_nx (e : Env) (g : Env → SRes) : (SRes.nx e).lp g = g e := rfl
@[simp] theorem lp_ct (e : Env) (g : Env → SRes) : (SRes.ct e).lp g = g e := rfl
@[simp] theorem lp_bk (e : Env) (g : Env → SRes) : (SRes.bk e).lp g = .nx e := rfl
@[simp] theorem lp_rt (o : O) (e : Env) (g : Env → SRes) : (SRes.rt o e).lp g = .rt o e := rfl
@[simp] theorem lp_er (x : D) (e : Env) (g : Env → SRes) : (SRes.er x e).lp g = .er x e := rfl
@[simp] theorem lp_no (g : Env → SRes) : SRes.no.lp g = .no := rfl
def FRes.opt (f : List O → FRes) (o : Option (List O)) : FRes := match o with
  | some os => f os
  | none => .no
@[simp] theorem fopt_some (f : List O → FRes) (os : List O) : FRes.opt f (some os) = f os := rfl
@[simp] theorem fopt_none (f : List O → FRes) : FRes.opt f none = .no := rfl
def SRes.fin (r : SRes) (B : List Nat) (os : List O) : FRes := match r with
  | .rt o e => FRes.opt (.ok o) (outs B e 0 os)
  | .nx e => FRes.opt (.ok (.im .non)) (outs B e 0 os)
  | .er x e => FRes.opt (.er x) (outs B e 0 os)
  | _ => .no
@[simp] theorem fin_rt (o : O) (e : Env) (B : List Nat) (os : List O) : (SRes.rt o e).fin B os = FRes.opt (.ok o) (outs B e 0 os) := rfl
@[simp] theorem fin_nx (e : Env) (B : List Nat) (os : List O) : (SRes.nx e).fin B os = FRes.opt (.ok (.im .non)) (outs B e 0 os) := rfl
@[simp] theorem fin_er (x : D) (e : Env) (B : List Nat) (os : List O) : (SRes.er x e).fin B os = FRes.opt (.er x) (outs B e 0 os) := rfl
def FRes.re (r : FRes) (ws : List (Option Nat)) (e : Env) : Res AO := match r with
  | .ok o os => .ok (.v o) (back ws os e)
  | .er x os => .er x (back ws os e)
  | .no => .no
@[simp] theorem re_ok (o : O) (os : List O) (ws : List (Option Nat)) (e : Env) : (FRes.ok o os).re ws e = .ok (.v o) (back ws os e) := rfl
@[simp] theorem re_er (x : D) (os : List O) (ws : List (Option Nat)) (e : Env) : (FRes.er x os).re ws e = .er x (back ws os e) := rfl
@[simp] theorem re_no (ws : List (Option Nat)) (e : Env) : FRes.no.re ws e = .no := rfl
@[simp] theorem bind_ok' {α β : Type} (a : α) (e : Env) (f : α → Env → Res β) : (Res.ok a e).bind f = f a e := rfl
@[simp] theorem bind_er' {α β : Type} (x : D) (e : Env) (f : α → Env → Res β) : (Res.er x e : Res α).bind f = .er x e := rfl
@[simp] theorem bind_no' {α β : Type} (f : α → Env → Res β) : (Res.no : Res α).bind f = .no := rfl
/-! slots -/
@[simp] theorem slot_zero (c : Option O) (e : Env) : slotO (c :: e) 0 = c := rfl
@[simp] theorem slot_succ (c : Option O) (e : Env) (i : Nat) : slotO (c :: e) (i + 1) = slotO e i := rfl
@[simp] theorem slot_nil (i : Nat) : slotO [] i = none := rfl
@[simp] theorem get_v (o : O) (e : Env) : (AO.v o).get e = some o := rfl
@[simp] theorem get_s (i : Nat) (e : Env) : (AO.s i).get e = slotO e i := rfl
@[simp] theorem gets_nil (e : Env) : gets e [] = some [] := rfl
@[simp] theorem gets_cons (e : Env) (a : AO) (as : List AO) : gets e (a :: as) = (a.get e).bind fun o => (gets e as).map (o :: ·) := by
  show (match a.get e, gets e as with | some o, some os => some (o :: os) | _, _ => none) = _
  cases a.get e <;> cases gets e as <;> rfl
@[simp] theorem p1_v_el (o : O) (e : Env) : pass1 .el (.v o) e = some (o, e, none) := rfl
@[simp] theorem p1_v_im (o : O) (e : Env) : pass1 .im (.v o) e = some (.im o.d, e, none) := rfl
@[simp] theorem p1_v_bw (o : O) (e : Env) : pass1 .bw (.v o) e = some (o, e, none) := rfl
@[simp] theorem p1_s_el (i : Nat) (e : Env) : pass1 .el (.s i) e = (slotO e i).map fun o => (.im o.d, e.set i (some (.im o.d)), none) := by
  show (match slotO e i with | none => none | some o => _) = _
  cases slotO e i <;> rfl
@[simp] theorem p1_s_im (i : Nat) (e : Env) : pass1 .im (.s i) e = (slotO e i).map fun o => (.im o.d, e.set i (some (.im o.d)), none) := by
  show (match slotO e i with | none => none | some o => _) = _
  cases slotO e i <;> rfl
@[simp] theorem p1_s_bw (i : Nat) (e : Env) : pass1 .bw (.s i) e = (slotO e i).map fun o => (o, e.set i none, some i) := by
  show (match slotO e i with | none => none | some o => _) = _
  cases slotO e i <;> rfl
@[simp] theorem ps_nil (e : Env) : pass [] [] e = some ([], e, []) := rfl
@[simp] theorem ps_cons (m : Md) (ms : List Md) (a : AO) (as : List AO) (e : Env) : pass (m :: ms) (a :: as) e = (pass1 m a e).bind fun q => (pass ms as q.2.1).map fun r => (q.1 :: r.1, r.2.1, q.2.2 :: r.2.2) := by
  rw [pass]
  cases pass1 m a e with
  | none => rfl
  | some q => 
    obtain ⟨o, e1, w⟩ := q
    dsimp only [Option.bind]
    cases pass ms as e1 with
    | none => rfl
    | some r => obtain ⟨x, y, z⟩ := r; rfl
@[simp] theorem bk_nil (os : List O) (e : Env) : back [] os e = e := rfl
@[simp] theorem bk_n (ws : List (Option Nat)) (o : O) (os : List O) (e : Env) : back (none :: ws) (o :: os) e = back ws os e := rfl
@[simp] theorem bk_s (i : Nat) (ws : List (Option Nat)) (o : O) (os : List O) (e : Env) : back (some i :: ws) (o :: os) e = back ws os (e.set i (some o)) := rfl
def imO : O → Option O
  | .im d => some (.im d)
  | _ => none
@[simp] theorem imO_im (d : D) : imO (.im d) = some (.im d) := rfl
@[simp] theorem imO_ob (c : Nat) (ns : List Str) (os : List O) : imO (.ob c ns os) = none := rfl
@[simp] theorem imO_ls (os : List O) : imO (.ls os) = none := rfl
@[simp] theorem outs_nil (B : List Nat) (e : Env) (i : Nat) : outs B e i [] = some [] := rfl
@[simp] theorem outs_cons (B : List Nat) (e : Env) (i : Nat) (o : O) (os : List O) : outs B e i (o :: os) = (if i ∈ B then slotO e i else imO o).bind fun a => (outs B e (i + 1) os).map (a :: ·) := by
  cases o with
  | im d => 
    show (match (if i ∈ B then slotO e i else some (.im d)), outs B e (i + 1) os with | some a, some b => some (a :: b) | _, _ => none) = _
    rw [imO_im]
    cases (if i ∈ B then slotO e i else some (.im d)) <;> cases outs B e (i + 1) os <;> rfl
  | ls xs =>
    show (match (if i ∈ B then slotO e i else none), outs B e (i + 1) os with | some a, some b => some (a :: b) | _, _ => none) = _
    rw [imO_ls]
    cases (if i ∈ B then slotO e i else none) <;> cases outs B e (i + 1) os <;> rfl
  | ob c ns xs =>
    show (match (if i ∈ B then slotO e i else none), outs B e (i + 1) os with | some a, some b => some (a :: b) | _, _ => none) = _
    rw [imO_ob]
    cases (if i ∈ B then slotO e i else none) <;> cases outs B e (i + 1) os <;> rfl
/-! expressions -/
@[simp] theorem e_N (i : Nat) (e : Env) : fN i e = Res.opt ((slotO e i).map fun _ => AO.s i) e := by
  unfold fN slotO
  cases h : e[i]? with
  | none => rfl
  | some c => cases c <;> rfl
@[simp] theorem e_C (d : D) (e : Env) : fC d e = .ok (.v (.im d)) e := rfl
@[simp] theorem e_Nil (e : Env) : fNil e = .ok [] e := rfl
@[simp] theorem e_Cons (f : Env → Res AO) (g : Env → Res (List AO)) (e : Env) : fCons f g e = (f e).bind fun a e1 => (g e1).bind fun as e2 => .ok (a :: as) e2 := rfl
@[simp] theorem e_P (fo : List O → Option O) (g : Env → Res (List AO)) (e : Env) : fP fo g e = (g e).bind fun as e1 => Res.opt (((gets e1 as).bind fo).map AO.v) e1 := by
  unfold fP
  congr 1; funext as e1
  cases gets e1 as with
  | none => rfl
  | some os => 
    dsimp only [Option.bind]
    cases fo os <;> rfl
@[simp] theorem e_2 (fo : List O → Option O) (f g : Env → Res AO) (e : Env) : f2 fo f g e = fP fo (fCons f (fCons g fNil)) e := rfl
@[simp] theorem trA_eq (a : AO) (e : Env) : trA a e = (a.get e).bind trO := rfl
@[simp] theorem e_Tr (f : Env → Res AO) (e : Env) : fTr f e = (f e).bind fun a e1 => Res.opt ((a.get e1).bind trO) e1 := by
  unfold fTr
  congr 1; funext a e1
  rw [trA_eq]
  cases (a.get e1).bind trO <;> rfl
@[simp] theorem boolA_v (k : Bool) : boolA (.v (.im (.bl k))) = some k := rfl
@[simp] theorem e_Tb (f : Env → Res AO) (e : Env) : fTb f e = (f e).bind fun a e1 => Res.opt (boolA a) e1 := by
  unfold fTb
  congr 1; funext a e1
  cases boolA a <;> rfl
@[simp] theorem e_AndT (f g : Env → Res Bool) (e : Env) : fAndT f g e = (f e).bind fun b e1 => if b = true then g e1 else .ok false e1 := rfl
@[simp] theorem e_OrT (f g : Env → Res Bool) (e : Env) : fOrT f g e = (f e).bind fun b e1 => if b = true then .ok true e1 else g e1 := rfl
@[simp] theorem e_NotT (f : Env → Res Bool) (e : Env) : fNotT f e = (f e).bind fun b e1 => .ok (!b) e1 := rfl
@[simp] theorem e_Yes (e : Env) : fYes e = .ok true e := rfl
@[simp] theorem e_If (t : Env → Res Bool) (f g : Env → Res AO) (e : Env) : fIf t f g e = (t e).bind fun b e1 => if b = true then f e1 else g e1 := rfl
@[simp] theorem e_Or (f g : Env → Res AO) (e : Env) : fOr f g e = (f e).bind fun a e1 => (Res.opt ((a.get e1).bind trO) e1).bind fun b _ => if b = true then .ok a e1 else g e1 := by
  unfold fOr
  congr 1; funext a e1
  rw [trA_eq]
  cases (a.get e1).bind trO with
  | none => rfl
  | some b => cases b <;> rfl
@[simp] theorem e_And (f g : Env → Res AO) (e : Env) : fAnd f g e = (f e).bind fun a e1 => (Res.opt ((a.get e1).bind trO) e1).bind fun b _ => if b = true then g e1 else .ok a e1 := by
  unfold fAnd
  congr 1; funext a e1
  rw [trA_eq]
  cases (a.get e1).bind trO with
  | none => rfl
  | some b => cases b <;> rfl
@[simp] theorem e_Not (f : Env → Res AO) (e : Env) : fNot f e = (f e).bind fun a e1 => (Res.opt ((a.get e1).bind trO) e1).bind fun b _ => .ok (.v (.im (.bl (!b)))) e1 := by
  unfold fNot
  congr 1; funext a e1
  rw [trA_eq]
  cases (a.get e1).bind trO <;> rfl
@[simp] theorem e_Lst (g : Env → Res (List AO)) (e : Env) : fLst g e = (g e).bind fun as e1 => (Res.opt (pass (List.replicate as.length .el) as e1) e1).bind fun q _ => if q.1.length ≤ sizeLine then .ok (.v (.ls q.1)) q.2.1 else .no := by
  unfold fLst
  congr 1; funext as e1
  cases pass (List.replicate as.length .el) as e1 with
  | none => rfl
  | some q => obtain ⟨x, y, z⟩ := q; rfl
@[simp] theorem e_Tup (g : Env → Res (List AO)) (e : Env) : fTup g e = (g e).bind fun as e1 => (Res.opt (pass (List.replicate as.length .im) as e1) e1).bind fun q _ => if q.1.length ≤ sizeLine then .ok (.v (.im (.tup (q.1.map O.d)))) q.2.1 else .no := by
  unfold fTup
  congr 1; funext as e1
  cases pass (List.replicate as.length .im) as e1 with
  | none => rfl
  | some q => obtain ⟨x, y, z⟩ := q; rfl
@[simp] theorem e_Call (F : List O → FRes) (ms : List Md) (dv : List D) (g : Env → Res (List AO)) (e : Env) : fCall F ms dv g e = (g e).bind fun as e1 => (Res.opt (pass ms as e1) e1).bind fun q _ => (F (q.1 ++ dv.map O.im)).re q.2.2 q.2.1 := by
  unfold fCall
  congr 1; funext as e1
  cases pass ms as e1 with
  | none => rfl
  | some q => 
    obtain ⟨x, y, z⟩ := q
    show (match F (x ++ dv.map O.im) with | .ok o os' => _ | .er x os' => _ | .no => _) = (F (x ++ dv.map O.im)).re z y
    cases F (x ++ dv.map O.im) <;> rfl
@[simp] theorem e_Bits (f : Env → Res AO) (e : Env) : fBits f e = (f e).bind fun a e1 => Res.opt (((a.get e1).bind intO).map fun i => AO.v (.im (.int (Builtin.Int.intBits i : Nat)))) e1 := by
  unfold fBits
  congr 1; funext a e1
  cases a.get e1 with
  | none => rfl
  | some o => cases o with
    | ls os => rfl
    | ob c ns os => rfl
    | im d => cases d <;> rfl
@[simp] theorem intO_int (i : Int) : intO (.im (.int i)) = some i := rfl
@[simp] theorem e_Int (f : Env → Res AO) (e : Env) : fInt f e = (f e).bind fun a e1 => Res.opt (((a.get e1).bind intO).map fun i => AO.v (.im (.int i))) e1 := by
  unfold fInt
  congr 1; funext a e1
  cases (a.get e1).bind intO <;> rfl
def lsO : O → Option (List O)
  | .ls os => some os
  | _ => none
@[simp] theorem lsO_ls (os : List O) : lsO (.ls os) = some os := rfl
def one1 : List O → Option O
  | [o] => some o
  | _ => none
@[simp] theorem one1_one (o : O) : one1 [o] = some o := rfl
@[simp] theorem e_App (i : Nat) (g : Env → Res (List AO)) (e : Env) : fApp i g e = (Res.opt ((slotO e i).bind lsO) e).bind fun _ e => (g e).bind fun as e1 => (Res.opt (pass (List.replicate as.length .el) as e1) e1).bind fun q _ => (Res.opt (one1 q.1) q.2.1).bind fun o e2 => (Res.opt ((slotO e2 i).bind lsO) e2).bind fun os _ => if os.length < sizeLine then .ok (.v (.im .non)) (e2.set i (some (.ls (os ++ [o])))) else .no := by
  unfold fApp
  cases slotO e i with
  | none => rfl
  | some o => cases o with
    | im d => rfl
    | ob _ _ _ => rfl
    | ls os0 =>
      show Res.bind _ _ = Res.bind _ _
      congr 1; funext as e1
      cases pass (List.replicate as.length .el) as e1 with
      | none => rfl
      | some q =>
        obtain ⟨x, y, z⟩ := q
        cases x with
        | nil => rfl
        | cons o x => cases x with
          | cons _ _ => rfl
          | nil =>
            show (match slotO y i with | some (.ls os) => _ | _ => _) = Res.bind (Res.opt ((slotO y i).bind lsO) y) _
            cases slotO y i with
            | none => rfl
            | some o => cases o <;> rfl
/-! statements -/
@[simp] theorem e_Nx (e : Env) : fNx e = .nx e := rfl
@[simp] theorem e_Seq (f g : Env → SRes) (e : Env) : fSeq f g e = (f e).seq g := by
  unfold fSeq
  cases f e <;> rfl
@[simp] theorem e_onX (f : Env → Res AO) (k : AO → Env → SRes) (e : Env) : onX f k e = (f e).on k := by
  unfold onX
  cases f e <;> rfl
@[simp] theorem e_Drop (f : Env → Res AO) (e : Env) : fDrop f e = (f e).on fun _ e1 => .nx e1 := by
  unfold fDrop
  rw [e_onX]
def retA (B : List Nat) (a : AO) (e : Env) : SRes := match a with
  | .v o => .rt o e
  | .s i => (Res.opt (slotO e i) e).on fun o e1 => if i ∈ B then .rt (.im o.d) (e1.set i (some (.im o.d))) else .rt o (e1.set i none)
@[simp] theorem retA_v (B : List Nat) (o : O) (e : Env) : retA B (.v o) e = .rt o e := rfl
@[simp] theorem retA_s (B : List Nat) (i : Nat) (e : Env) : retA B (.s i) e = (Res.opt (slotO e i) e).on fun o e1 => if i ∈ B then .rt (.im o.d) (e1.set i (some (.im o.d))) else .rt o (e1.set i none) := rfl
@[simp] theorem e_Ret (B : List Nat) (f : Env → Res AO) (e : Env) : fRet B f e = (f e).on fun a e1 => retA B a e1 := by
  unfold fRet
  rw [e_onX]
  congr 1; funext a e1
  cases a with
  | v o => rfl
  | s i =>
    rw [retA_s]
    dsimp only
    cases slotO e1 i <;> rfl
@[simp] theorem e_Asg (f : Env → Res AO) (t : O → Env → Option Env) (e : Env) : fAsg f t e = (f e).on fun a e1 => SRes.opt ((pass1 .el a e1).bind fun q => t q.1 q.2.1) := by
  unfold fAsg
  rw [e_onX]
  congr 1; funext a e1
  cases pass1 .el a e1 with
  | none => rfl
  | some q =>
    obtain ⟨x, y, z⟩ := q
    dsimp only [Option.bind]
    cases t x y <;> rfl
@[simp] theorem e_IfS (t : Env → Res Bool) (f g : Env → SRes) (e : Env) : fIfS t f g e = (t e).on fun b e1 => if b = true then f e1 else g e1 := by
  unfold fIfS
  cases t e <;> rfl
@[simp] theorem e_Name (i : Nat) (o : O) (e : Env) : sName i o e = if i < e.length then some (e.set i (some o)) else none := rfl
@[simp] theorem e_SNil (e : Env) : sNil [] e = some e := rfl
@[simp] theorem e_SCons (t : O → Env → Option Env) (u : List D → Env → Option Env) (d : D) (ds : List D) (e : Env) : sCons t u (d :: ds) e = (t (.im d) e).bind fun e1 => u ds e1 := rfl
@[simp] theorem e_STup (n : Nat) (u : List D → Env → Option Env) (ds : List D) (e : Env) : sTup n u (.im (.tup ds)) e = if ds.length = n then u ds e else none := rfl
@[simp] theorem e_Sub (i : Nat) (fi : Env → Res AO) (o : O) (e : Env) : sSub i fi o e = (slotO e i).bind fun _ => (fi e).o.bind fun q => ((q.1.get q.2).bind intO).bind fun k => ((slotO q.2 i).bind lsO).bind fun os => (ixN os.length k).map fun j => q.2.set i (some (.ls (os.set j o))) := by
  unfold sSub
  cases slotO e i with
  | none => rfl
  | some _ =>
    dsimp only [Option.bind]
    cases fi e with
    | er x e1 => rfl
    | no => rfl
    | ok a e1 =>
      show (match (a.get e1).bind intO with | none => none | some k => _) = ((a.get e1).bind intO).bind _
      cases (a.get e1).bind intO with
      | none => rfl
      | some k =>
        show (match slotO e1 i with | some (.ls os) => _ | _ => none) = ((slotO e1 i).bind lsO).bind _
        cases slotO e1 i with
        | none => rfl
        | some o => cases o <;> rfl
theorem loop_nil (t : O → Env → Option Env) (body : Env → SRes) (e : Env) : runFor t body [] e = .nx e := rfl
theorem loop_cons (t : O → Env → Option Env) (body : Env → SRes) (d : D) (ds : List D) (e : Env) : runFor t body (d :: ds) e = (SRes.opt (t (.im d) e)).seq fun e1 => (body e1).lp (runFor t body ds) := by
  rw [runFor]
  cases t (.im d) e with
  | none => rfl
  | some e1 =>
    show (match body e1 with | .nx e2 => _ | .ct e2 => _ | .bk e2 => _ | r => r) = (body e1).lp _
    cases body e1 <;> rfl
@[simp] theorem e_For (sq : O → Option (List D)) (f : Env → Res AO) (t : O → Env → Option Env) (body : Env → SRes) (e : Env) : fFor sq f t body e = (f e).on fun a e1 => (Res.opt (pass1 .im a e1) e1).on fun q _ => (Res.opt (sq q.1) q.2.1).on fun ds e2 => runFor t body ds e2 := by
  unfold fFor
  rw [e_onX]
  congr 1; funext a e1
  cases pass1 .im a e1 with
  | none => rfl
  | some q =>
    obtain ⟨x, y, z⟩ := q
    show (match sq x with | none => _ | some ds => _) = (Res.opt (sq x) y).on _
    cases sq x <;> rfl
@[simp] theorem e_ForR (rg : List O → Option (Int × Nat)) (g : Env → Res (List AO)) (t : O → Env → Option Env) (body : Env → SRes) (e : Env) : fForR rg g t body e = (g e).on fun as e1 => (Res.opt ((gets e1 as).bind rg) e1).on fun q e2 => runFor t body (rngD q.1 q.2) e2 := by
  unfold fForR
  cases g e with
  | er x e1 => rfl
  | no => rfl
  | ok as e1 =>
    show (match gets e1 as with | none => _ | some os => _) = (Res.opt ((gets e1 as).bind rg) e1).on _
    cases gets e1 as with
    | none => rfl
    | some os =>
      dsimp only [Option.bind]
      cases rg os with
      | none => rfl
      | some q => obtain ⟨lo, n⟩ := q; rfl
@[simp] theorem e_Def (B : List Nat) (m : Nat) (body : Env → SRes) (os : List O) : fDef B m body os = (body (os.map some ++ List.replicate m none)).fin B os := by
  unfold fDef
  cases body (os.map some ++ List.replicate m none) with
  | nx e => rw [fin_nx]; dsimp only; cases outs B e 0 os <;> rfl
  | rt o e => rw [fin_rt]; dsimp only; cases outs B e 0 os <;> rfl
  | er x e => rw [fin_er]; dsimp only; cases outs B e 0 os <;> rfl
  | bk e => rfl
  | ct e => rfl
  | no => rfl
/-! comprehensions -/
theorem lc_nil (vs : List Nat) (t : O → Env → Option Env) (cond : Env → Res Bool) (elt : Env → Res AO) (acc : List O) (e : Env) : runLc vs t cond elt [] acc e = some (acc, e) := rfl
theorem lc_cons (vs : List Nat) (t : O → Env → Option Env) (cond : Env → Res Bool) (elt : Env → Res AO) (d : D) (ds : List D) (acc : List O) (e : Env) : runLc vs t cond elt (d :: ds) acc e = (t (.im d) e).bind fun e1 => (cond e1).o.bind fun q => if q.1 = true then ((elt q.2).o.bind fun r => (pass1 .el r.1 r.2).bind fun z => if acc.length < sizeLine then runLc vs t cond elt ds (acc ++ [z.1]) (wipeE z.2.1 vs) else none) else runLc vs t cond elt ds acc (wipeE q.2 vs) := by
  rw [runLc]
  cases t (.im d) e with
  | none => rfl
  | some e1 =>
    dsimp only [Option.bind]
    cases cond e1 with
    | er x e2 => rfl
    | no => rfl
    | ok b e2 => cases b with
      | false => rfl
      | true =>
        show (match elt e2 with | .ok a e3 => _ | _ => none) = _
        simp only [ro_ok]
        cases elt e2 with
        | er x e3 => rfl
        | no => rfl
        | ok a e3 =>
          show (match pass1 .el a e3 with | none => none | some (o, e4, _) => _) = _
          simp only [ro_ok]
          cases pass1 .el a e3 with
          | none => rfl
          | some z => obtain ⟨x, y, z⟩ := z; rfl
@[simp] theorem e_LcOn (sq : O → Option (List D)) (vs : List Nat) (t : O → Env → Option Env) (cond : Env → Res Bool) (f elt : Env → Res AO) (e : Env) : fLcOn sq vs t cond f elt e = (f e).bind fun a e1 => (Res.opt (pass1 .im a e1) e1).bind fun q _ => (Res.opt (sq q.1) q.2.1).bind fun ds e2 => (Res.opt (runLc vs t cond elt ds [] (wipeE e2 vs)) e2).bind fun z _ => .ok (.v (.ls z.1)) z.2 := by
  unfold fLcOn
  congr 1; funext a e1
  cases pass1 .im a e1 with
  | none => rfl
  | some q =>
    obtain ⟨x, y, z⟩ := q
    show (match sq x with | none => _ | some ds => _) = (Res.opt (sq x) y).bind _
    cases sq x with
    | none => rfl
    | some ds =>
      show (match runLc vs t cond elt ds [] (wipeE y vs) with | none => _ | some (acc, e3) => _) = (Res.opt (runLc vs t cond elt ds [] (wipeE y vs)) y).bind _
      cases runLc vs t cond elt ds [] (wipeE y vs) with
      | none => rfl
      | some z => obtain ⟨p, q⟩ := z; rfl
@[simp] theorem e_LcR (rg : List O → Option (Int × Nat)) (vs : List Nat) (t : O → Env → Option Env) (cond : Env → Res Bool) (g : Env → Res (List AO)) (elt : Env → Res AO) (e : Env) : fLcR rg vs t cond g elt e = (g e).bind fun as e1 => (Res.opt ((gets e1 as).bind rg) e1).bind fun q e2 => (Res.opt (runLc vs t cond elt (rngD q.1 q.2) [] (wipeE e2 vs)) e2).bind fun z _ => .ok (.v (.ls z.1)) z.2 := by
  unfold fLcR
  congr 1; funext as e1
  cases gets e1 as with
  | none => rfl
  | some os =>
    dsimp only [Option.bind]
    cases rg os with
    | none => rfl
    | some q =>
      obtain ⟨lo, n⟩ := q
      show (match runLc vs t cond elt (rngD lo n) [] (wipeE e1 vs) with | none => _ | some (acc, e3) => _) = (Res.opt (runLc vs t cond elt (rngD lo n) [] (wipeE e1 vs)) e1).bind _
      cases runLc vs t cond elt (rngD lo n) [] (wipeE e1 vs) with
      | none => rfl
      | some z => obtain ⟨p, q⟩ := z; rfl
/-! operations -/
@[simp] theorem o_I2 (c : Int → Int → Bool) (g : Int → Int → D) (i j : Int) : oI2 c g [.im (.int i), .im (.int j)] = if c i j then some (.im (g i j)) else none := rfl
@[simp] theorem o_Neg (i : Int) : oNeg [.im (.int i)] = some (.im (.int (-i))) := rfl
@[simp] theorem o_Plus (i j : Int) : oPlus [.im (.int i), .im (.int j)] = some (.im (.int (i + j))) := rfl
theorem cMul_s {i j : Int} (h1 : -(2 ^ 200) < i) (h2 : i < 2 ^ 200) (h3 : -(2 ^ 200) < j) (h4 : j < 2 ^ 200) : cMul i j = true := by
  have a : i.natAbs < 2 ^ 200 := by omega
  have b : j.natAbs < 2 ^ 200 := by omega
  exact decide_eq_true (wide_mul a b (by decide) (by decide) (by decide))
theorem o_Times (i j : Int) (h1 : -(2 ^ 200) < i) (h2 : i < 2 ^ 200) (h3 : -(2 ^ 200) < j) (h4 : j < 2 ^ 200) : oTimes [.im (.int i), .im (.int j)] = some (.im (.int (i * j))) := by
  show (match oI2 cMul (fun i j => .int (i * j)) [.im (.int i), .im (.int j)] with | some o => _ | none => _) = _
  rw [o_I2, if_pos (cMul_s h1 h2 h3 h4)]
theorem cMod_s {i j : Int} (h : 0 < j) : cMod i j = true := decide_eq_true h
theorem cDiv_s {i j : Int} (h : 0 < j) (h2 : j < 2 ^ 200) : cDiv i j = true := by
  have q : j.natAbs.log2 < 9000 := Nat.lt_trans ((Nat.log2_lt (by omega)).mpr (show j.natAbs < 2 ^ 200 by omega)) (by decide)
  unfold cDiv
  rw [decide_eq_true h, decide_eq_true q]; rfl
theorem in62_s {i : Int} (h : -(2 ^ 62) ≤ i) (h2 : i < 2 ^ 62) : in62 i = true := by
  unfold in62
  rw [decide_eq_true h, decide_eq_true h2]; rfl
@[simp] theorem o_ix (o : O) (i : Int) : ixO [o, .im (.int i)] = ((seqO o).bind fun ds => atI ds i).map O.im := by
  show (match lstD o with | some ds => _ | none => _) = _
  unfold seqO
  cases lstD o with
  | none => dsimp only; cases tupD o <;> rfl
  | some ds => rfl
@[simp] theorem seq_lst (ds : List D) : seqO (.im (.lst ds)) = some ds := rfl
@[simp] theorem seq_tup (ds : List D) : seqO (.im (.tup ds)) = some ds := rfl
theorem allIm_map (ds : List D) : allIm (ds.map O.im) = some ds := by
  induction ds with
  | nil => rfl
  | cons d ds ih => rw [List.map_cons, allIm, ih]; rfl
@[simp] theorem allIm_nil : allIm [] = some [] := rfl
@[simp] theorem allIm_cons (d : D) (os : List O) : allIm (.im d :: os) = (allIm os).map (d :: ·) := rfl
@[simp] theorem seq_ls (os : List O) : seqO (.ls os) = allIm os := by
  show (match allIm os with | some ds => some ds | none => none) = _
  cases allIm os <;> rfl
@[simp] theorem o_rng1 (j : Int) : rng1 [.im (.int j)] = if in62 j then some (0, j.toNat) else none := rfl
@[simp] theorem o_rng2 (i j : Int) : rng2 [.im (.int i), .im (.int j)] = if in62 i && in62 j then some (i, (j - i).toNat) else none := rfl
@[simp] theorem tr_int (i : Int) : trO (.im (.int i)) = some (i != 0) := rfl
@[simp] theorem tr_bl (b : Bool) : trO (.im (.bl b)) = some b := rfl
@[simp] theorem tr_non : trO (.im .non) = some false := rfl
@[simp] theorem d_im (d : D) : (O.im d).d = d := rfl
@[simp] theorem o_isN_non (neg : Bool) (d : D) : oIsN neg [.im d, .im .non] = some (.im (.bl (isNonD d != neg))) := rfl
@[simp] theorem len_lst (ds : List D) : oLen [.im (.lst ds)] = some (.im (.int (ds.length : Int))) := rfl
@[simp] theorem len_tup (ds : List D) : oLen [.im (.tup ds)] = some (.im (.int (ds.length : Int))) := rfl
@[simp] theorem len_ls (os : List O) : oLen [.ls os] = some (.im (.int (os.length : Int))) := rfl
@[simp] theorem list_eq (o : O) : oList [o] = (seqO o).map fun ds => .ls (ds.map O.im) := rfl
@[simp] theorem tuple_eq (o : O) : oTuple [o] = (seqO o).map fun ds => .im (.tup ds) := rfl
end PV

set_option Elab.async false
set_option linter.all false
set_option maxRecDepth 100000
set_option maxHeartbeats 4000000
/-! PVp: the program's own objects: fields, properties, methods, making; global constants -/
namespace PV
open PySem L2
section
variable {X : Cx} {W : WX} {G : Cl} {B : List Nat}
/-- a constant of the module -/
structure Glo (mg : Str → Option Value) (G : Cl) (x : Str) (d : D) : Prop where
  ex : ∃ (u : Value) (v : V), mg x = some u ∧ RelV v u ∧ ∀ H L, Im G H L v d
theorem px_gl {x : Str} {pos : Pos} {d : D} (g : Glo X.mg G x d) (hg : Gl X x) (hd : (x == ("__debug__" : Str)) = false := by decide) : PE X (.Name x pos) (tX G W (fC d)) := by
  obtain ⟨u, v, hm, r, im⟩ := g.ex
  exact px_const (pe_glob hg hm r hd) im
/-! ### fields -/
theorem zip_im {H : Hp} {L : Addr → Prop} {f : Str} : ∀ {ns : List Str} {vs : List V} {ds : List D} {d : D}, ImA G H L vs ds → (ns.zip ds).lookup f = some d → ∃ v, (ns.zip vs).lookup f = some v ∧ Im G H L v d
  | [], _, _, _, _, h => by cases h
  | _ :: _, _, _, _, .nil, h => by cases h
  | n :: ns, v :: vs, d0 :: ds, d, .cons h0 r, h => by
    rw [List.zip_cons_cons, List.lookup_cons] at h
    rw [List.zip_cons_cons]
    rw [List.lookup_cons]
    split at h
    · cases h; exact ⟨v, rfl, h0⟩
    · exact zip_im r h
theorem zip_ow {H : Hp} {L : Addr → Prop} {f : Str} : ∀ {ns : List Str} {vs : List V} {os : List O} {o : O} {A : List Addr}, OwA G H L vs os A → (ns.zip os).lookup f = some o → ∃ v C, (ns.zip vs).lookup f = some v ∧ Ow G H L v o C
  | [], _, _, _, _, _, h => by cases h
  | _ :: _, _, _, _, _, .nil, h => by cases h
  | n :: ns, v :: vs, o0 :: os, o, _, .cons h0 r, h => by
    rw [List.zip_cons_cons, List.lookup_cons] at h
    rw [List.zip_cons_cons]
    rw [List.lookup_cons]
    split at h
    · cases h; exact ⟨v, _, rfl, h0⟩
    · exact zip_ow r h
def imD : O → Option D
  | .im d => some d
  | _ => none
def fldO (c : Nat) (f : Str) : O → Option D
  | .im (.ins c' fs) => if c' = c then fs.lookup f else none
  | .ob c' ns os => if c' = c then ((ns.zip os).lookup f).bind imD else none
  | _ => none
theorem fldO_ok {H : Hp} {L : Addr → Prop} {v : V} {o : O} {C : List Addr} {c : Nat} {f : Str} {d : D} (r : Ow G H L v o C) (h : fldO c f o = some d) : ∃ a dx fs v', v = .ref a ∧ H a = some (.ins (G.pl c) dx fs) ∧ fs.lookup f = some v' ∧ Im G H L v' d := by
  cases r with
  | ls _ _ => cases h
  | ob h0 l r =>
    simp only [fldO] at h
    split at h
    · rename_i e
      subst e
      rw [Option.bind_eq_some_iff] at h
      obtain ⟨o, h1, h2⟩ := h
      obtain ⟨v, C, h3, h4⟩ := zip_ow r h1
      cases h4 with
      | im i => cases h2; exact ⟨_, _, _, v, rfl, h0, h3, i⟩
      | ls _ _ => cases h2
      | ob _ _ _ => cases h2
    · cases h
  | im r =>
    cases r with
    | ins h0 n l r =>
      simp only [fldO] at h
      split at h
      · rename_i e
        subst e
        obtain ⟨v, h3, h4⟩ := zip_im r h
        exact ⟨_, _, _, v, rfl, h0, h3, h4⟩
      · cases h
    | _ => cases h
/-- o.f -/
def fFld (c : Nat) (f : Str) (fe : Env → Res AO) : Env → Res AO := fun e => (fe e).bind fun a e1 => Res.opt (((a.get e1).bind (fldO c f)).map fun d => AO.v (.im d)) e1
theorem px_fld (c : Nat) {f : Str} {o : Expr} {fe : Env → Res AO} {pos : Pos} (hc : Cls X.K (G.pl c)) (hn : NoAttr X.K (G.pl c) f) (ha : PE X o (tX G W fe)) (hb : attributeBase o f X.env (eval o X.env) = eval o X.env := by rfl) : PE X (.Attribute o f pos) (tX G W (fFld c f fe)) := by
  refine peW (pe_fld ha hb) fun s H Q ⟨R, e, A, S, z⟩ => ?_
  unfold fFld at z
  refine run_two S (fun hf => by rw [hf] at z; cases z) (fun x e' hf => by rw [hf] at z; exact z) fun a e1 hf v H1 A1 S1 ft F1 => ?_
  rw [hf] at z
  dsimp only [Res.bind] at z
  cases hg : (a.get e1).bind (fldO c f) with
  | none => rw [hg] at z; cases z
  | some d =>
    rw [hg] at z
    rw [Option.bind_eq_some_iff] at hg
    obtain ⟨o1, h1, h2⟩ := hg
    obtain ⟨C, ow⟩ := get_ow S1.sl ft h1
    obtain ⟨p, dx, fs, v', e1', h3, h4, h5⟩ := fldO_ok ow h2
    obtain ⟨A2, S2, m⟩ := S1.tail
    exact ⟨p, _, dx, fs, v', e1', h3, hc, hn, h4, z v' H1 A2 ⟨.so (A := []) (.im (h5.go (Go.less fun a h => h.imp (m a) id))) S2.sl, S2.nd, S2.dj, S2.ft⟩ trivial (F1.sub m)⟩
/-! ### stores -/
def putO (f : Str) (o : O) : List Str → List O → List Str × List O
  | n :: ns, x :: os => if n = f then (n :: ns, o :: os) else (n :: (putO f o ns os).1, x :: (putO f o ns os).2)
  | _, _ => ([f], [o])
theorem putO_len {f : Str} {o : O} : ∀ {ns : List Str} {os : List O}, ns.length = os.length → (putO f o ns os).1.length = (putO f o ns os).2.length
  | [], [], _ => rfl
  | n :: ns, x :: os, h => by
    unfold putO
    split
    · simpa using h
    · simp [putO_len (f := f) (o := o) (ns := ns) (os := os) (by simpa using h)]
/-- the same on values, and on both -/
def putV (f : Str) (v : V) : List Str → List V → List V
  | n :: ns, x :: vs => if n = f then v :: vs else x :: putV f v ns vs
  | _, _ => [v]
theorem putV_zip {f : Str} {v : V} {o : O} : ∀ {ns : List Str} {vs : List V} {os : List O}, ns.length = os.length → vs.length = os.length → putF f v (ns.zip vs) = (putO f o ns os).1.zip (putV f v ns vs) ∧ (putV f v ns vs).length = (putO f o ns os).2.length ∧
    ∃ l, ((v, o) :: vs.zip os).Perm l ∧ ((putV f v ns vs).zip (putO f o ns os).2).Sublist l
  | [], [], [], _, _ => ⟨rfl, rfl, _, List.Perm.refl _, List.Sublist.refl _⟩
  | [], _, _ :: _, h1, _ => by simp at h1
  | [], _ :: _, [], _, h2 => by simp at h2
  | _ :: _, _, [], h1, _ => by simp at h1
  | _ :: _, [], _ :: _, _, h2 => by simp at h2
  | n :: ns, x :: vs, y :: os, h1, h2 => by
    obtain ⟨q1, q2, l, q3, q4⟩ := putV_zip (f := f) (v := v) (o := o) (ns := ns) (vs := vs) (os := os) (by simpa using h1) (by simpa using h2)
    unfold putV putO
    rw [List.zip_cons_cons, putF]
    by_cases e : n = f
    · rw [if_pos e, if_pos e, if_pos e]
      refine ⟨rfl, by simpa using h2, (x, y) :: (v, o) :: vs.zip os, List.Perm.swap _ _ _, ?_⟩
      exact List.Sublist.cons _ (List.Sublist.refl _)
    · rw [if_neg e, if_neg e, if_neg e, q1]
      refine ⟨rfl, by simp [q2], (x, y) :: l, (List.Perm.swap _ _ _).trans (q3.cons _), ?_⟩
      simpa using q4.cons₂ (x, y)
def sFldT (i c : Nat) (f : Str) : O → Env → Option Env := fun o e => (slotO e i).bind fun u => match u with
  | .ob c' ns os => if c' = c ∧ ns.length < 1000 ∧ ns.length = os.length then some (e.set i (some (.ob c' (putO f o ns os).1 (putO f o ns os).2))) else none
  | _ => none
def gFld (K : PySem.W.Frag) (ta : TE) (f : Str) : TG := fun y σ H Q => ta σ H fun x H2 => ∃ a C dx fs, x = .ref a ∧ H2 a = some (.ins C dx fs) ∧ Cls K C ∧ NoAttr K C f ∧ fs.length < 1000 ∧ Q σ (upd H2 a (.ins C dx (putF f y fs)))
theorem tg_fld {Kp : St → St → Prop} {K : PySem.W.Frag} {i c : Nat} {f : Str} (hc : Cls K (G.pl c)) (hn : NoAttr K (G.pl c) f) (hr : ∀ s, Kp s s) : TGk G Kp (gFld K (tX G W (fN i)) f) (sFldT i c f) := by
  intro R s H A v o e e' Q S h k
  unfold sFldT at h
  rw [Option.bind_eq_some_iff] at h
  obtain ⟨u, h0, h⟩ := h
  cases u with
  | im _ => cases h
  | ls _ => cases h
  | ob c' ns os =>
    dsimp only at h
    split at h
    · rename_i hh
      obtain ⟨rfl, hl, hlen⟩ := hh
      cases h
      have g0 := slotO_eq h0
      obtain ⟨A1, A2, rfl, r1, S1⟩ := SR.frame (xs := [some v]) (cs := [some o]) rfl S
      obtain ⟨n1, n2, n12⟩ := List.nodup_append.mp S.nd
      refine ⟨_, e, A2, S1, ?_⟩
      have hN : fN i e = .ok (.s i) e := by unfold fN; rw [g0]
      rw [hN]
      intro x H1 A3 S2 ft F1
      have hx : s[i]? = some (some x) := ft
      obtain ⟨A4, S3, m4⟩ := S2.tail
      have Fall : Fr0 H A2 H1 A4 := F1.sub m4
      obtain ⟨S6, F6⟩ := SR.unframe r1 n1 (fun a m => S.dj a (List.mem_append_left _ m)) S3 (fun a m z => n12 a z a m rfl) (fun a m => S.dj a (List.mem_append_right _ m)) Fall
      obtain ⟨w, B1, B2, B3, q1, _, q3, _⟩ := SlA.at S3.sl g0
      rw [hx] at q1; cases q1
      cases q3 with
      | @ob p dx _ _ vs _ A0 hH _ rO =>
        obtain ⟨p1, p2, l, p3, p4⟩ := putV_zip (f := f) (v := v) (o := o) (ns := ns) (vs := vs) (os := os) hlen rO.length
        obtain ⟨A7, S7, F7⟩ := SR.writeG (ts := [v]) (tos := [o]) (ts' := []) (tos' := []) (xs := vs) (os := os) (xs' := putV f v ns vs) (os' := (putO f o ns os).2) (exv := []) (exd := []) (l := l) (u' := .ins (G.pl c') dx (putF f v (ns.zip vs))) (o1 := .ob c' (putO f o ns os).1 (putO f o ns os).2) S6 (i := i) g0 hx
          (fun L A2 r => by
            cases r with
            | @ob _ dx2 _ _ vs2 _ A9 hH2 _ r2 =>
              rw [hH] at hH2
              have e3 : ns.zip vs = ns.zip vs2 := by simp only [Option.some.injEq, HO.ins.injEq] at hH2; exact hH2.2.2
              have e4 : vs = vs2 := by
                have l1 := rO.length
                have l2 := r2.length
                have := congrArg (List.map Prod.snd) e3
                rwa [List.map_snd_zip (by omega), List.map_snd_zip (by omega)] at this
              subst e4
              exact ⟨_, rfl, r2⟩)
          (fun L O' r => .ob (by rw [upd_same, p1]) (putO_len hlen) r) rfl .nil (by simpa using p3) (by simpa using p4) rfl p2
        refine ⟨p, _, dx, _, rfl, hH, hc, hn, by simp [rO.length, hlen]; omega, ?_⟩
        exact k s _ _ S7 (hr s) (F6.trans F7)
    · cases h
theorem qp_fld (i c : Nat) {f : Str} {b value : Expr} {fe : Env → Res AO} {pos pos' : Pos} (hc : Cls X.K (G.pl c)) (hn : NoAttr X.K (G.pl c) f) (hb : PE X b (tX G W (fN i))) (hv : PE X value (tX G W fe)) (hs : swapsWith value (some (.Attribute b f pos')) pos.line X.env = pure false := by rfl) :
    PS X (.Assign [.Attribute b f pos'] value pos) (tS G W B (fAsg fe (sFldT i c f))) :=
  psW (ps_fld hb hv hs) fun D s H h => run_asg (g := gFld X.K (tX G W (fN i)) f) (tg_fld hc hn fun _ => keepB.refl) h
end
end PV

set_option Elab.async false
set_option linter.all false
set_option maxRecDepth 100000
set_option maxHeartbeats 4000000
/-! PVq: properties, methods, making -/
namespace PV
open PySem L2
section
variable {X : Cx} {W : WX} {G : Cl} {B : List Nat}
theorem zipn {α β : Type} {m : Str} : ∀ {ns : List Str} {xs : List α} {ys : List β}, xs.length = ys.length → (ns.zip xs).lookup m = none → (ns.zip ys).lookup m = none
  | [], _, _, _, _ => rfl
  | _ :: _, _, [], _, _ => rfl
  | _ :: _, [], _ :: _, h, _ => by simp at h
  | n :: ns, x :: xs, y :: ys, h, e => by
    rw [List.zip_cons_cons, List.lookup_cons] at e
    rw [List.zip_cons_cons, List.lookup_cons]
    split
    · rename_i q; rw [q] at e; cases e
    · rename_i q; rw [q] at e; exact zipn (by simpa using h) e
def insA (c : Nat) (m : Str) : Option O → Bool
  | some (.im (.ins c' fs)) => decide (c' = c) && (fs.lookup m).isNone
  | some (.ob c' ns os) => decide (c' = c) && ((ns.zip os).lookup m).isNone
  | _ => false
theorem insA_ok {H : Hp} {L : Addr → Prop} {v : V} {o : O} {C : List Addr} {c : Nat} {m : Str} (r : Ow G H L v o C) (h : insA c m (some o) = true) : ∃ a dx fs, v = .ref a ∧ H a = some (.ins (G.pl c) dx fs) ∧ fs.lookup m = none := by
  cases r with
  | ls _ _ => cases h
  | ob h0 l r =>
    simp only [insA, Bool.and_eq_true, decide_eq_true_eq, Option.isNone_iff_eq_none] at h
    obtain ⟨rfl, h⟩ := h
    exact ⟨_, _, _, rfl, h0, zipn (by rw [r.length]) h⟩
  | im r =>
    cases r with
    | ins h0 n l r =>
      simp only [insA, Bool.and_eq_true, decide_eq_true_eq, Option.isNone_iff_eq_none] at h
      obtain ⟨rfl, h⟩ := h
      exact ⟨_, _, _, rfl, h0, zipn (by rw [r.length]) h⟩
    | _ => cases h
def fGuard (c : Nat) (m : Str) (f : Env → Res AO) : Env → Res AO := fun e => (f e).bind fun a e1 => if insA c m (a.get e1) = true then .ok a e1 else .no
theorem run_consG {c : Nat} {m : Str} {f : Env → Res AO} {g : Env → Res (List AO)} {s : St} {H : Hp} {Qs : List V → Hp → Prop} (h : tL G W (fCons (fGuard c m f) g) s H Qs) :
    tX G W f s H fun v H1 => (∃ a dx fs, v = .ref a ∧ H1 a = some (.ins (G.pl c) dx fs) ∧ fs.lookup m = none) ∧ tL G W g s H1 fun vs H2 => Qs (v :: vs) H2 := by
  obtain ⟨R, e, A, S, k⟩ := h
  refine ⟨R, e, A, S, ?_⟩
  unfold fCons fGuard at k
  cases hf : f e with
  | no => rw [hf] at k; cases k
  | er x e' => rw [hf] at k; exact k
  | ok a e1 =>
    rw [hf] at k
    dsimp only [Res.bind] at k
    by_cases hi : insA c m (a.get e1) = true
    · rw [if_pos hi] at k
      intro v H1 A1 S1 ft F1
      cases ho : a.get e1 with
      | none => rw [ho] at hi; cases hi
      | some o =>
        rw [ho] at hi
        obtain ⟨C0, ow⟩ := get_ow S1.sl ft ho
        refine ⟨insA_ok ow hi, ?_⟩
        obtain ⟨B, C, hA, r1, S2⟩ := SR.frame (xs := [some v]) (cs := [a.cell]) rfl S1
        subst hA
        obtain ⟨nB, nC, nBC⟩ := List.nodup_append.mp S1.nd
        refine ⟨_, e1, C, S2, ?_⟩
        dsimp only at k
        cases hg : g e1 with
        | no => rw [hg] at k; cases k
        | er x e' =>
          rw [hg] at k
          exact erE.sub k (fun a h => .inl h) (F1.sub fun a m => List.mem_append_right _ m)
        | ok as e2 =>
          rw [hg] at k
          intro vs H2 A2 S3 hl fts F2
          obtain ⟨S4, F4⟩ := SR.unframe r1 nB (fun a m => S1.dj a (List.mem_append_left _ m)) S3 (fun a m z => nBC a z a m rfl) (fun a m => S1.dj a (List.mem_append_right _ m)) F2
          refine k (v :: vs) H2 (B ++ A2) S4 (by simp [hl]) (fun j b w hj hw => ?_) (F1.trans F4)
          cases j with
          | zero => simp at hj hw; subst hj; subst hw; exact ft
          | succ j => exact fts j b w (by simpa using hj) (by simpa using hw)
    · rw [if_neg hi] at k; cases k
theorem run_nil {s : St} {H : Hp} {Qs : List V → Hp → Prop} (h : tL G W fNil s H Qs) : Qs [] H := by
  obtain ⟨R, e, A, S, k⟩ := h
  exact k [] H A S rfl (fun j a v h => by simp at h) Fr.refl
theorem lenG {c : Nat} {m : Str} {f : Env → Res AO} {g : Env → Res (List AO)} {n : Nat} (h : LenIs g n) : LenIs (fCons (fGuard c m f) g) (n + 1) := len_cons h
/-- o.m(..): the receiver, then the arguments -/
abbrev fMeth (c : Nat) (m : Str) (F : List O → FRes) (ms : List Md) (fo : Env → Res AO) (g : Env → Res (List AO)) : Env → Res AO := fCall F ms [] (fCons (fGuard c m fo) g)
/-! ### properties -/
def noEr (F : List O → FRes) : List O → FRes := fun os => match F os with
  | .ok o os' => .ok o os'
  | _ => .no
theorem SpF.noEr {n : Nat} {F : List O → FRes} {vs : List V} {H : Hp} {Q : VK} {E E' : XK} (h : SpF G n (noEr F) vs H Q E) : SpF G n F vs H Q E' := by
  obtain ⟨hn, R, os, A, S, k⟩ := h
  refine ⟨hn, R, os, A, S, ?_⟩
  unfold PV.noEr at k
  cases hF : F os with
  | no => rw [hF] at k; cases k
  | er x os' => rw [hF] at k; cases k
  | ok o os' => rw [hF] at k; exact k
structure Prp (P : Program) (w : World) (G : Cl) (mg : Str → Option Value) (base : Heap) (c : Nat) (f : Str) (k : Nat) (F : List O → FRes) : Prop where
  ex : ∃ (p g : Addr) (fd : FuncData) (ps : List Str), PropOf G.K (G.pl c) f p g ∧ FnG P w G.K mg base k g fd ps (SpF G 1 F) ∧ Binds G.K fd ps []
theorem px_prop (c : Nat) (m : Md) {f : Str} {k : Nat} {F : List O → FRes} {o : Expr} {fe : Env → Res AO} {pos : Pos} (hc : Cls X.K (G.pl c)) (D : Prp X.prog X.w G X.mg X.base c f k F) (hr : RmG (k + 1) X.A) (ha : PE X o (tX G W fe)) (hb : attributeBase o f X.env (eval o X.env) = eval o X.env := by rfl) (hK : X.K = G.K := by rfl) :
    PE X (.Attribute o f pos) (tX G W (fMeth c f (noEr F) [m] fe fNil)) := by
  obtain ⟨p, g, fd, ps, hp, hF, hbd⟩ := D.ex
  rw [← hK] at hp hF hbd
  refine peW (pe_propG (dvs := []) ha hc hp hF hr hbd .nil hb) fun s H Q h => ?_
  have q := run_consG (run_call (n := 1) (dvs := []) (fun H L => .nil) h fun as e e1 ho => by rw [List.length_nil, Nat.add_zero]; exact lenG len_nil as e e1 ho)
  obtain ⟨R, e, A, S, z⟩ := q
  refine ⟨R, e, A, S, ?_⟩
  cases hf : fe e with
  | no => rw [hf] at z; cases z
  | er x e' => rw [hf] at z; exact z
  | ok a e1 =>
    rw [hf] at z
    intro v H1 A1 S1 ft F1
    obtain ⟨⟨b, dx, fs, rfl, h1, _⟩, h2⟩ := z v H1 A1 S1 ft F1
    exact ⟨b, dx, fs, rfl, h1, (run_nil h2).noEr⟩
/-! ### methods -/
structure Mth (P : Program) (w : World) (G : Cl) (mg : Str → Option Value) (base : Heap) (c : Nat) (m : Str) (k n : Nat) (F : List O → FRes) : Prop where
  ex : ∃ (f : Addr) (fd : FuncData) (ps : List Str), Meth G.K (G.pl c) m f ∧ FnG P w G.K mg base k f fd ps (SpF G (n + 1) F) ∧ Binds G.K fd ps []
theorem passW {E : XK} (tk : Takes X fun c d _ H => E c d H) : Passes (L2.CX X.prog X.w) X E := fun pins σ H s e s' I c => passAt tk σ pins H s e s' I c
theorem txW {f : Env → Res AO} {s : St} {H : Hp} {P P' : VK} (h : tX G W f s H P) (k : ∀ v H, P v H → P' v H) : tX G W f s H P' := by
  obtain ⟨R, e, A, S, z⟩ := h
  refine ⟨R, e, A, S, ?_⟩
  cases hf : f e with
  | no => rw [hf] at z; cases z
  | er x e' => rw [hf] at z; exact z
  | ok a e1 => rw [hf] at z; exact fun v H1 A1 S1 ft F1 => k v H1 (z v H1 A1 S1 ft F1)
theorem px_meth (c : Nat) (ms : List Md) {m : Str} {k n : Nat} {F : List O → FRes} {o ex : Expr} {es : List Expr} {fo : Env → Res AO} {g : Env → Res (List AO)} {pl : Sem Bool} {apos pos : Pos} (hc : Cls X.K (G.pl c)) (D : Mth X.prog X.w G X.mg X.base c m k n F) (hr : RmG k X.A) (tk : Takes X W) (ho : PE X o (tX G W fo)) (ha : PA X (ex :: es) (tL G W g)) (hl : LenIs g n)
    (hst : starEach (ex :: es) X.env = (false, eval ex X.env) :: starEach es X.env := by rfl) (hpl : (backTo pos (starEach es X.env)).any (·.1) = false := by rfl)
    (ht : eval (.Call (.Attribute o m apos) (ex :: es) [] pos) X.env = (do
      let ov ← eval o X.env
      standAt apos.atName
      let (f, first) ← holding [ov] (getMethod ov m pl)
      callWith pos f first (backTo pos (starEach (ex :: es) X.env)) (backToKw pos (keywordEach [] X.env))) := by rfl) (hK : X.K = G.K := by rfl) :
    PE X (.Call (.Attribute o m apos) (ex :: es) [] pos) (tX G W (fMeth c m F ms fo g)) := by
  obtain ⟨f, fd, ps, hm, hF, hbd⟩ := D.ex
  rw [← hK] at hm hF hbd
  refine peW (pe_methG (dvs := []) ho hc hm hF hr hbd .nil tk ha hst hpl ht) fun s H Q h => ?_
  refine txW (run_consG (run_call (n := n + 1) (dvs := []) (fun H L => .nil) h fun as e e1 hg => by rw [List.length_nil, Nat.add_zero]; exact lenG hl as e e1 hg)) fun v H1 z => ?_
  obtain ⟨⟨b, dx, fs, rfl, h1, h2⟩, h3⟩ := z
  exact ⟨b, dx, fs, rfl, h1, h2, h3⟩
end
end PV

set_option Elab.async false
set_option linter.all false
set_option maxRecDepth 100000
set_option maxHeartbeats 4000000
/-! PVr: making an object -/
namespace PV
open PySem L2
section
variable {X : Cx} {W : WX} {G : Cl} {B : List Nat}
def fMake (c : Nat) (F : List O → FRes) (ms : List Md) (dv : List D) (g : Env → Res (List AO)) : Env → Res AO := fun e => (g e).bind fun as e1 => match pass ms as e1 with
  | none => .no
  | some (os, e2, ws) => match F (.ob c [] [] :: (os ++ dv.map O.im)) with
    | .ok (.im .non) (o :: os') => .ok (.v o) (back ws os' e2)
    | .er x (_ :: os') => .er x (back ws os' e2)
    | _ => .no
theorem run_make1 {c n : Nat} {F : List O → FRes} {ms : List Md} {dv : List D} {dvs : List V} {g : Env → Res (List AO)} {s : St} {H : Hp} {Q : VK} (hdv : ∀ H L, ImA G H L dvs dv) (h : tX G W (fMake c F ms dv g) s H Q) (hlen : ∀ as e e1, g e = .ok as e1 → as.length + dvs.length = n) :
    tL G W g s H fun vs H1 => ∀ x dx, H1 x = none → H1 dx = none → dx ≠ x → SpF G (n + 1) F (.ref x :: (vs ++ dvs)) (upd (upd H1 dx (.own x)) x (.ins (G.pl c) dx [])) (fun v H2 => v = .non ∧ Q (.ref x) H2) (fun c d H' => W c d s H') := by
  obtain ⟨R, e, A, S, k⟩ := h
  refine ⟨R, e, A, S, ?_⟩
  unfold fMake at k
  cases hg : g e with
  | no => rw [hg] at k; cases k
  | er x e' => rw [hg] at k; exact k
  | ok as e1 =>
    rw [hg] at k
    intro vs H1 A1 S1 hl ft F1
    dsimp only [Res.bind] at k
    cases hp : pass ms as e1 with
    | none => rw [hp] at k; cases k
    | some r =>
      obtain ⟨os, e2, ws⟩ := r
      rw [hp] at k
      dsimp only at k
      obtain ⟨A2, S2, m2, l2, l3, l4, w2⟩ := SR.passes [] [] rfl S1 hl ft hp
      have S2 : SR G R H1 (vs.map some ++ s) (os.map some ++ e2) A2 := S2
      intro x dx hx hdx ne
      refine ⟨by rw [List.length_cons, List.length_append, hl, hlen as e e1 hg], ?_⟩
      have S3 := S2.push (u := .own x) hdx
      have P3 : Fr0 H1 A2 (upd H1 dx (.own x)) A2 := Fr.push hdx
      have hx3 : upd H1 dx (.own x) x = none := by rw [upd_ne (fun z => ne z.symm)]; exact hx
      obtain ⟨S4, F4⟩ := SR.newG (q := false) (vs := []) (os := []) (u0 := .ins (G.pl c) dx []) (q0 := .ob c [] []) (S := S3) rfl hx3 fun L Z r => by
        cases r
        exact .ob (ns := []) (vs := []) upd_same rfl .nil
      generalize hAA : x :: A2 = AA at S4 F4
      obtain ⟨B, C, rfl, r2, S5⟩ := SR.head (xs := some (.ref x) :: vs.map some) (cs := some (.ob c [] []) :: os.map some) (by simpa using l2) S4
      have nd4 := S4.nd
      have dj4 := S4.dj
      obtain ⟨nB, nC, nBC⟩ := List.nodup_append.mp nd4
      generalize hHn : upd (upd H1 dx (.own x)) x (.ins (G.pl c) dx []) = Hn at S4 S5 F4 r2
      have S6 : SR G (fun a => R a ∨ a ∈ C) Hn ((V.ref x :: (vs ++ dvs)).map some) ((O.ob c [] [] :: (os ++ dv.map O.im)).map some) B := by
        have q := S5.sl.app (map_im (hdv Hn (fun a => a ∈ B ∨ (R a ∨ a ∈ C))))
        rw [List.append_nil] at q
        have q2 : SlA G Hn (fun a => a ∈ B ∨ (R a ∨ a ∈ C)) ((V.ref x :: (vs ++ dvs)).map some) ((O.ob c [] [] :: (os ++ dv.map O.im)).map some) B := by
          rw [List.map_cons, List.map_cons, List.map_append, List.map_append]
          exact q
        exact ⟨q2, S5.nd, S5.dj, S5.ft⟩
      have ll : (vs ++ dvs).length = (os ++ dv.map O.im).length := by simp [l2, (hdv H1 fun _ => False).length]
      refine ⟨_, _, _, S6, ?_⟩
      have F14 : Fr0 H A Hn (B ++ C) := ((F1.sub m2).trans P3).trans F4
      have ww : ∀ (j i : Nat) (v : V), ws[j]? = some (some i) → (vs ++ dvs)[j]? = some v → s[i]? = some (some v) := fun j i v h1 h2 => by
        refine w2 j i v h1 ?_
        rw [List.getElem?_append_left (by have := lt_of_get h1; omega)] at h2
        exact h2
      cases hF : F (.ob c [] [] :: (os ++ dv.map O.im)) with
      | no => rw [hF] at k; cases k
      | ok o os' =>
        rw [hF] at k
        intro v H2 A3 S6 F6
        obtain ⟨S7, F7⟩ := SR.unhead r2 nC (fun a m => dj4 a (List.mem_append_right _ m)) S6 (fun a m z => nBC a m a z rfl) F6
        have lo : (vs ++ dvs).length + 1 = os'.length := by have := S6.len; simpa using this
        cases os' with
        | nil => simp at lo
        | cons o1 os' =>
          cases o with
          | ls _ => cases k
          | ob _ _ _ => cases k
          | im d =>
            cases d with
            | non =>
              dsimp only at k
              have S7' : SR G R H2 (some v :: (some (.ref x) :: ((vs ++ dvs).map some ++ s))) (some (.im .non) :: (some o1 :: (os'.map some ++ e2))) (A3 ++ C) := S7
              have ev : v = .non := by
                obtain ⟨v', _, Z, _, h1, _, h2, _⟩ := SlA.at (i := 0) S7'.sl rfl
                cases h1
                cases h2 with
                | im q => cases q; rfl
              obtain ⟨A4, S8, m8⟩ := S7'.tail
              obtain ⟨A5, cs, c1, c2, S9, m9⟩ := SR.backs (ws := ws) (os := os') (vs := vs ++ dvs) [some (.ref x)] [some o1] rfl S8 (by simpa using lo) ww
              cases cs with
              | nil => simp at c2
              | cons c cs =>
                simp at c2 c1
                subst c2
                have S10 : SR G R H2 (some (.ref x) :: ((vs ++ dvs).map some ++ s)) (some o1 :: (cs ++ back ws os' e2)) A5 := S9
                obtain ⟨A6, S11, m11⟩ := SR.under (by rw [List.length_map]; simp at lo ⊢; omega) S10
                exact ⟨ev, k (.ref x) H2 A6 S11 trivial ((F14.trans F7).sub fun a m => m8 a (m9 a (m11 a m)))⟩
            | _ => cases k
      | er xx os' =>
        rw [hF] at k
        intro cc d H2 A3 S6 r6 F6
        obtain ⟨S7, F7⟩ := SR.unhead r2 nC (fun a m => dj4 a (List.mem_append_right _ m)) S6 (fun a m z => nBC a m a z rfl) F6
        have lo : (vs ++ dvs).length + 1 = os'.length := by have := S6.len; simpa using this
        cases os' with
        | nil => simp at lo
        | cons o1 os' =>
          dsimp only at k
          have S7' : SR G R H2 (some (.ref x) :: ((vs ++ dvs).map some ++ s)) (some o1 :: (os'.map some ++ e2)) (A3 ++ C) := S7
          obtain ⟨A4, S8, m8⟩ := S7'.tail
          have S8' : SR G R H2 ((vs ++ dvs).map some ++ s) (os'.map some ++ e2) A4 := S8
          obtain ⟨A5, cs, c1, c2, S9, m9⟩ := SR.backs (ws := ws) (os := os') (vs := vs ++ dvs) [] [] rfl S8' (by simpa using lo) ww
          have S10 : SR G R H2 ((vs ++ dvs).map some ++ s) (cs ++ back ws os' e2) A5 := S9
          obtain ⟨A6, S11, m11⟩ := SR.drop (by rw [List.length_map]; simp at lo ⊢; simp at c1; omega) S10
          refine k cc d H2 A6 S11 (r6.less fun a h => ?_) ((F14.trans F7).sub fun a m => m8 a (m9 a (m11 a m)))
          rcases h with h | h
          · rcases List.mem_append.mp (m8 a (m9 a (m11 a h))) with h | h
            · exact .inl h
            · exact .inr (.inr h)
          · exact .inr (.inl h)
/-- a class of the program and how it is made: n arguments are written, the others are dv -/
structure Kls (P : Program) (w : World) (G : Cl) (mg : Str → Option Value) (base : Heap) (x : Str) (c k n : Nat) (dv : List D) (F : List O → FRes) : Prop where
  ex : ∃ (f : Addr) (fd : FuncData) (ps : List Str) (ds : List Value) (dvs : List V), Mk G.K (G.pl c) f ∧ FnG P w G.K mg base k f fd ps (SpF G (n + dv.length + 1) F) ∧ mg x = some (.ref (G.pl c)) ∧ Binds G.K fd ps ds ∧ Vals dvs ds ∧ (∀ H L, ImA G H L dvs dv)
theorem px_make (ms : List Md) {x : Str} {c k n : Nat} {dv : List D} {F : List O → FRes} {ex : Expr} {es : List Expr} {g : Env → Res (List AO)} {p pos : Pos} (D : Kls X.prog X.w G X.mg X.base x c k n dv F) (hr : RmG (k + 1) X.A) (tk : Takes X W) (hg : Gl X x) (ha : PA X (ex :: es) (tL G W g)) (hl : LenIs g n)
    (hdb : (x == ("__debug__" : Str)) = false := by decide) (he : starEach (ex :: es) X.env = (false, eval ex X.env) :: starEach es X.env := by rfl) (hpl : (backTo pos (starEach es X.env)).any (·.1) = false := by rfl) (hK : X.K = G.K := by rfl) :
    PE X (.Call (.Name x p) (ex :: es) [] pos) (tX G W (fMake c F ms dv g)) := by
  obtain ⟨f, fd, ps, ds, dvs, M, hF, hm, hbd, hv, hi⟩ := D.ex
  rw [← hK] at M hF hbd
  exact peW (pe_makeG M hF hr hg hm hbd hv tk ha hdb he hpl) fun s H Q h => run_make1 hi h fun as e e1 q => by rw [hl as e e1 q, (hi H fun _ => False).length]
theorem px_meth0 (c : Nat) (m0 : Md) {m : Str} {k : Nat} {F : List O → FRes} {o : Expr} {fo : Env → Res AO} {pl : Sem Bool} {apos pos : Pos} (hc : Cls X.K (G.pl c)) (D : Mth X.prog X.w G X.mg X.base c m k 0 F) (hr : RmG k X.A) (tk : Takes X W) (ho : PE X o (tX G W fo))
    (ht : eval (.Call (.Attribute o m apos) [] [] pos) X.env = (do
      let ov ← eval o X.env
      standAt apos.atName
      let (f, first) ← holding [ov] (getMethod ov m pl)
      callWith pos f first (backTo pos (starEach [] X.env)) (backToKw pos (keywordEach [] X.env))) := by rfl) (hK : X.K = G.K := by rfl) :
    PE X (.Call (.Attribute o m apos) [] [] pos) (tX G W (fMeth c m F [m0] fo fNil)) := by
  obtain ⟨f, fd, ps, hm, hF, hbd⟩ := D.ex
  rw [← hK] at hm hF hbd
  refine peW (pe_meth0G (dvs := []) ho hc hm hF hr hbd .nil tk ht) fun s H Q h => ?_
  refine txW (run_consG (run_call (n := 1) (dvs := []) (fun H L => .nil) h fun as e e1 hg => by rw [List.length_nil, Nat.add_zero]; exact lenG len_nil as e e1 hg)) fun v H1 z => ?_
  obtain ⟨⟨b, dx, fs, rfl, h1, h2⟩, h3⟩ := z
  exact ⟨b, dx, fs, rfl, h1, h2, run_nil h3⟩
end
end PV

set_option Elab.async false
set_option linter.all false
set_option maxRecDepth 100000
set_option maxHeartbeats 4000000
/-! PVs: what is never reached; isinstance; a class's own constants -/
namespace PV
open PySem L2
section
variable {X : Cx} {W : WX} {G : Cl} {B : List Nat}
/-! ### what is never reached -/
def fNoX : Env → Res AO := fun _ => .no
def fNoS : Env → SRes := fun _ => .no
@[simp] theorem e_noX (e : Env) : fNoX e = .no := rfl
@[simp] theorem e_noS (e : Env) : fNoS e = .no := rfl
theorem qp_never {st : Stmt} : PS X st (tS G W B fNoS) := ⟨fun pins s σ H D I h => by
  obtain ⟨R, e, A, S, z⟩ := h
  exact z.elim⟩
theorem px_never {ex : Expr} : PE X ex (tX G W fNoX) := ⟨fun pins s σ H Q I h => by
  obtain ⟨R, e, A, S, z⟩ := h
  exact z.elim⟩
/-! ### a class's own constant -/
structure Kon (K : PySem.W.Frag) (C : Addr) (f : Str) (G : Cl) (d : D) : Prop where
  ex : ∃ (mc : Value) (v : V) (u : Value), ClX.CRead K C mc ∧ ClX.CVal K C mc f v u ∧ ∀ H L, Im G H L v d
theorem px_kon {x f : Str} {c : Nat} {d : D} {p pos : Pos} (g : Glo X.mg G x (.cls c)) (hg : Gl X x) (k : Kon X.K (G.pl c) f G d) (hd : (x == ("__debug__" : Str)) = false := by decide) (hb : attributeBase (.Name x p) f X.env (eval (.Name x p) X.env) = eval (.Name x p) X.env := by rfl) :
    PE X (.Attribute (.Name x p) f pos) (tX G W (fC d)) := by
  obtain ⟨u, v, hm, r, im⟩ := g.ex
  obtain ⟨mc, v2, u2, h1, h2, im2⟩ := k.ex
  have ev : v = .ref (G.pl c) := by
    have q := im (fun _ => none) (fun _ => False)
    cases q
    rfl
  subst ev
  refine peW (ClX.pe_cval (pe_glob hg hm r hd) hb) fun s H Q ⟨R, e, A, S, z⟩ => ?_
  exact ⟨_, mc, v2, u2, rfl, h1, h2, z v2 H A ⟨.so (A := []) (.im (im2 _ _)) S.sl, S.nd, S.dj, S.ft⟩ trivial Fr.refl⟩
/-! ### isinstance -/
def tyD : D → Option String
  | .non => some "NoneType"
  | .bl _ => some "bool"
  | .int _ => some "int"
  | .str _ => some "str"
  | .lst _ => some "list"
  | .tup _ => some "tuple"
  | .dct _ => some "dict"
  | _ => none
def tyO : O → Option String
  | .im d => tyD d
  | .ls _ => some "list"
  | .ob _ _ _ => none
def kls (o : O) : Option Nat := match o with
  | .im (.ins c _) => some c
  | .ob c _ _ => some c
  | _ => none
theorem tyO_ok {H : Hp} {L : Addr → Prop} {v : V} {o : O} {C : List Addr} {t : String} (r : Ow G H L v o C) (h : tyO o = some t) : TyX G.K H v (.type t) := by
  cases r with
  | ob _ _ _ => cases h
  | ls h0 r => cases h; exact .base (.lst h0)
  | im r => cases r with
    | non => cases h; exact .base .non
    | bl b => cases h; exact .base (.bl b)
    | int i => cases h; exact .base (.int i)
    | str x => cases h; exact .base (.str x)
    | lst l r =>
      cases h
      rcases l.1 with l | ⟨o, l⟩
      · exact .base (.lst l)
      · exact .base (.frz l)
    | tup l r =>
      cases h
      rcases l with ⟨l | ⟨o, l⟩, _⟩ | l
      · exact .base (.tup l)
      · exact .fTuple l
      · rcases l with (l | ⟨o, l⟩) | l
        · cases l
        · cases l
        · obtain ⟨o, its, n, h1, h2, _⟩ := l
          exact .kTuple h1 h2
    | dct l _ _ _ =>
      cases h
      rcases l with l | ⟨o, l⟩
      · exact .base (.dK l)
      · exact .fDict l
    | _ => cases h
/-- the facts of the i-th class for isinstance -/
structure Isi (K : PySem.W.Frag) (C : Addr) : Prop where
  cl : Cls K C
  ha : PySem.W.findIn K (.ref C) "__class__" = some (some (.builtin "object.__class__"))
  hn : PySem.W.specialIn K (.builtin "object.__class__") "__get__" = some (some (.builtin "getset_descriptor.__get__"))
  htk : PySem.W.takesIn K (.builtin "object.__class__") = some true
  hm : PySem.W.mroIn K C (.type "object") = some true
  no : ∀ t ∈ ["NoneType", "bool", "int", "str", "list", "tuple", "dict"], PySem.W.kitOne K (.type t) (.ref C) = some false ∧ (t ≠ "NoneType" → PySem.W.kitOne K (.ref C) (.type t) = some false)
theorem kit1 {K : PySem.W.Frag} {C : Addr} {cd : ClassData} {t : String} (h1 : PySem.W.clsIn K C = some cd) (h2 : PySem.W.typeIn K (.ref C) = some (.type "type")) (h3 : PySem.W.subIn K (.type t) (.ref C) = some false) : PySem.W.kitOne K (.type t) (.ref C) = some false := by
  unfold PySem.W.kitOne PySem.W.kitCls
  have ne : (Value.type t == Value.ref C) = false := rfl
  rw [ne, if_neg (by decide)]
  show (if ((PySem.W.clsIn K C).isSome && PySem.W.typeIn K (.ref C) == some (.type "type")) = true then PySem.W.subIn K (.type t) (.ref C) else none) = some false
  rw [h1, h2]
  have c : ((some cd).isSome && some (Value.type "type") == some (Value.type "type")) = true := by first | rfl | simp
  rw [if_pos c]
  exact h3
theorem kit2 {K : PySem.W.Frag} {C : Addr} {t : String} (h1 : PySem.W.kitMeta t = true) (h3 : PySem.W.subIn K (.ref C) (.type t) = some false) : PySem.W.kitOne K (.ref C) (.type t) = some false := by
  unfold PySem.W.kitOne PySem.W.kitCls
  have ne : (Value.ref C == Value.type t) = false := rfl
  rw [ne, if_neg (by decide)]
  show (if PySem.W.kitMeta t = true then PySem.W.subIn K (.ref C) (.type t) else none) = some false
  rw [if_pos h1]
  exact h3
def isTy (t b : String) : Bool := decide (t = b) || (decide (t = "bool") && decide (b = "int"))
theorem isTy_ok : ∀ t ∈ ["NoneType", "bool", "int", "str", "list", "tuple", "dict"], ∀ b ∈ ["bool", "int", "str", "list", "tuple", "dict"], kitB t b = some (isTy t b) := by
  decide +kernel
/-- the seven kinds, and those that are asked for -/
abbrev kinds : List String := ["NoneType", "bool", "int", "str", "list", "tuple", "dict"]
abbrev asked : List String := ["bool", "int", "str", "list", "tuple", "dict"]
theorem tyO_kind {o : O} {t : String} (h : tyO o = some t) : t ∈ kinds := by
  unfold tyO at h
  split at h
  · rename_i d
    cases d <;> simp [tyD] at h <;> subst h <;> simp
  · cases h; simp
  · cases h
/-- isinstance(o, b), b a built-in class; ok: the program's own classes that may come -/
def oIsT (ok : List Nat) (b : String) : List O → Option O
  | [o, .im (.ty b')] => if b' = b then (match tyO o with
    | some t => some (.im (.bl (isTy t b)))
    | none => match kls o with
      | some c => if c ∈ ok then some (.im (.bl false)) else none
      | none => none) else none
  | _ => none
/-- isinstance(o, C), C an own class without heirs -/
def oIsC (ok : List Nat) (c : Nat) : List O → Option O
  | [o, .im (.cls c')] => if c' = c then (match tyO o with
    | some t => some (.im (.bl false))
    | none => match kls o with
      | some k => if k ∈ ok then some (.im (.bl (decide (k = c)))) else none
      | none => none) else none
  | _ => none
theorem kls_ok {H : Hp} {L : Addr → Prop} {v : V} {o : O} {C : List Addr} {c : Nat} (r : Ow G H L v o C) (h : kls o = some c) : ∃ a dx fs, v = .ref a ∧ H a = some (.ins (G.pl c) dx fs) := by
  cases r with
  | ls _ _ => cases h
  | ob h0 _ _ => cases h; exact ⟨_, _, _, rfl, h0⟩
  | im r => cases r with
    | ins h0 _ _ _ => cases h; exact ⟨_, _, _, rfl, h0⟩
    | _ => cases h
theorem Isi.ty {K : PySem.W.Frag} {H : Hp} {C a dx : Addr} {fs : List (Str × V)} (i : Isi K C) (h : H a = some (.ins C dx fs)) : TyX K H (.ref a) (.ref C) := .base (.ins h i.cl i.ha i.hn i.htk i.hm)
theorem pr_isT {ok : List Nat} {b : String} (hb : b ∈ asked) (F : ∀ c ∈ ok, Isi G.K (G.pl c)) : Prim G (rIsi G.K) (oIsT ok b) :=
  prim_flat fun L E H vs os o Q r h => by
    unfold oIsT at h
    split at h
    · rename_i o1 b'
      split at h
      · rename_i e
        subst e
        obtain ⟨v, v2, C1, C2, rfl, r1, r2⟩ := ow2 r
        have e2 : v2 = .ty b' := by
          cases r2 with
          | im q => cases q; rfl
        subst e2
        cases ht : tyO o1 with
        | some t =>
          rw [ht] at h
          cases h
          refine ⟨_, _, rfl, fun _ _ => .bl _, fun q => ⟨v, _, .type t, .type b', isTy t b', rfl, .ty b', tyO_ok r1 ht, kit_ty (isTy_ok t (tyO_kind ht) b' hb), q⟩⟩
        | none =>
          rw [ht] at h
          dsimp only at h
          cases hk : kls o1 with
          | none => rw [hk] at h; cases h
          | some c =>
            rw [hk] at h
            dsimp only at h
            split at h
            · rename_i hc
              cases h
              obtain ⟨a, dx, fs, rfl, h0⟩ := kls_ok r1 hk
              have i := F c hc
              have hb2 : b' ∈ kinds := List.mem_cons_of_mem _ hb
              have hb3 : b' ≠ "NoneType" := fun z => by rw [z] at hb; simp at hb
              exact ⟨_, _, rfl, fun _ _ => .bl _, fun q => ⟨.ref a, _, .ref (G.pl c), .type b', false, rfl, .ty b', i.ty h0, (i.no b' hb2).2 hb3, q⟩⟩
            · cases h
      · cases h
    · cases h
theorem pr_isC {ok : List Nat} {c : Nat} (Fc : Isi G.K (G.pl c)) (F : ∀ k ∈ ok, Isi G.K (G.pl k)) (N : ∀ k ∈ ok, k ≠ c → PySem.W.kitOne G.K (.ref (G.pl k)) (.ref (G.pl c)) = some false) : Prim G (rIsi G.K) (oIsC ok c) :=
  prim_flat fun L E H vs os o Q r h => by
    unfold oIsC at h
    split at h
    · rename_i o1 c'
      split at h
      · rename_i e
        subst e
        obtain ⟨v, v2, C1, C2, rfl, r1, r2⟩ := ow2 r
        have e2 : v2 = .ref (G.pl c') := by
          cases r2 with
          | im q => cases q; rfl
        subst e2
        cases ht : tyO o1 with
        | some t =>
          rw [ht] at h
          cases h
          exact ⟨_, _, rfl, fun _ _ => .bl _, fun q => ⟨v, _, .type t, .ref (G.pl c'), false, rfl, .own _, tyO_ok r1 ht, (Fc.no t (tyO_kind ht)).1, q⟩⟩
        | none =>
          rw [ht] at h
          dsimp only at h
          cases hk : kls o1 with
          | none => rw [hk] at h; cases h
          | some k =>
            rw [hk] at h
            dsimp only at h
            split at h
            · rename_i hc
              cases h
              obtain ⟨a, dx, fs, rfl, h0⟩ := kls_ok r1 hk
              refine ⟨_, _, rfl, fun _ _ => .bl _, fun q => ⟨.ref a, _, .ref (G.pl k), .ref (G.pl c'), decide (k = c'), rfl, .own _, (F k hc).ty h0, ?_, q⟩⟩
              by_cases e : k = c'
              · subst e
                rw [decide_eq_true rfl]
                exact if_pos (beq_self_eq_true _)
              · rw [decide_eq_false e]
                exact N k hc e
            · cases h
      · cases h
    · cases h
theorem px_tyN {x : Str} {n : String} {pos : Pos} (hg : Gl X x) (hm : X.mg x = none) (hv : bootBuiltins x = some (.type n)) (hn : x ≠ "__name__" := by decide) (hd : (x == ("__debug__" : Str)) = false := by decide) : PE X (.Name x pos) (tX G W (fC (.ty n))) :=
  px_const (v := .ty n) (pe_bltn (v := .ty n) hg hm hv rfl hn hd) fun _ _ => .ty n
theorem x_isT (ok : List Nat) {b : String} {g : Env → Res (List AO)} {ex : Expr} {es : List Expr} {p pos : Pos} (hb : b ∈ asked) (F : ∀ c ∈ ok, Isi G.K (G.pl c)) (hg : Gl X "isinstance") (hm : X.mg "isinstance" = none) (ha : PA X (ex :: es) (tL G W g))
    (he : starEach (ex :: es) X.env = (false, eval ex X.env) :: starEach es X.env := by rfl) (hpl : (backTo pos (starEach es X.env)).any (·.1) = false := by rfl) (hK : X.K = G.K := by rfl) : PE X (.Call (.Name "isinstance" p) (ex :: es) [] pos) (tX G W (fP (oIsT ok b) g)) :=
  px_bltf (id := "isinstance") (pr_isT hb F) (hK ▸ call_isi) hg hm PyProof.Rows.boot_isinstance ha (by decide) (by decide) he hpl
theorem x_isC (ok : List Nat) {c : Nat} {g : Env → Res (List AO)} {ex : Expr} {es : List Expr} {p pos : Pos} (Fc : Isi G.K (G.pl c)) (F : ∀ k ∈ ok, Isi G.K (G.pl k)) (N : ∀ k ∈ ok, k ≠ c → PySem.W.kitOne G.K (.ref (G.pl k)) (.ref (G.pl c)) = some false) (hg : Gl X "isinstance") (hm : X.mg "isinstance" = none) (ha : PA X (ex :: es) (tL G W g))
    (he : starEach (ex :: es) X.env = (false, eval ex X.env) :: starEach es X.env := by rfl) (hpl : (backTo pos (starEach es X.env)).any (·.1) = false := by rfl) (hK : X.K = G.K := by rfl) : PE X (.Call (.Name "isinstance" p) (ex :: es) [] pos) (tX G W (fP (oIsC ok c) g)) :=
  px_bltf (id := "isinstance") (pr_isC Fc F N) (hK ▸ call_isi) hg hm PyProof.Rows.boot_isinstance ha (by decide) (by decide) he hpl
end
end PV

set_option Elab.async false
set_option linter.all false
set_option maxRecDepth 100000
set_option maxHeartbeats 4000000
/-! PVt: all, any; enumerate -/
namespace PV
open PySem L2
section
variable {X : Cx} {W : WX} {G : Cl} {B : List Nat}
def boolsD : List D → Option (List Bool)
  | [] => some []
  | .bl b :: ds => (boolsD ds).map (b :: ·)
  | _ => none
theorem boolsD_ok : ∀ {ds : List D} {bs : List Bool} {H : Hp} {L : Addr → Prop} {vs : List V}, boolsD ds = some bs → ImA G H L vs ds → vs = bs.map V.bl
  | [], bs, _, _, _, h, .nil => by simp [boolsD] at h; subst h; rfl
  | d :: ds, bs, _, _, _, h, .cons h0 r => by
    cases d with
    | bl b =>
      simp only [boolsD, Option.map_eq_some_iff] at h
      obtain ⟨bs', h1, rfl⟩ := h
      cases h0
      rw [boolsD_ok h1 r]; rfl
    | _ => simp [boolsD] at h
def boolsO (o : O) : Option (List Bool) := (lstD o).bind boolsD
def oAll : List O → Option O
  | [o] => (boolsO o).map fun bs => .im (.bl (bs.all id))
  | _ => none
def oAny : List O → Option O
  | [o] => (boolsO o).map fun bs => .im (.bl (bs.any id))
  | _ => none
theorem boolsO_ok {H : Hp} {L : Addr → Prop} {v : V} {o : O} {C : List Addr} {bs : List Bool} (r : Ow G H L v o C) (h : boolsO o = some bs) : ∃ a, v = .ref a ∧ Rd H a (.lst (bs.map V.bl)) := by
  unfold boolsO at h
  rw [Option.bind_eq_some_iff] at h
  obtain ⟨ds, h1, h2⟩ := h
  obtain ⟨a, vs, rfl, h3, h4⟩ := lstD_ok r h1
  rw [boolsD_ok h2 h4] at h3
  exact ⟨a, rfl, h3⟩
theorem pr_all : Prim G (rAll G.K) oAll :=
  prim_flat fun L E H vs os o Q r h => by
    unfold oAll at h
    split at h
    · obtain ⟨v, C', rfl, r1⟩ := ow1 r
      rw [Option.map_eq_some_iff] at h
      obtain ⟨bs, h1, rfl⟩ := h
      obtain ⟨a, rfl, h2⟩ := boolsO_ok r1 h1
      exact ⟨_, _, rfl, fun _ _ => .bl _, fun q => ⟨a, bs, rfl, .inl h2, q⟩⟩
    · cases h
theorem pr_any : Prim G (rAny G.K) oAny :=
  prim_flat fun L E H vs os o Q r h => by
    unfold oAny at h
    split at h
    · obtain ⟨v, C', rfl, r1⟩ := ow1 r
      rw [Option.map_eq_some_iff] at h
      obtain ⟨bs, h1, rfl⟩ := h
      obtain ⟨a, rfl, h2⟩ := boolsO_ok r1 h1
      exact ⟨_, _, rfl, fun _ _ => .bl _, fun q => ⟨a, bs, rfl, .inl h2, q⟩⟩
    · cases h
section
variable {g : Env → Res (List AO)} {ex : Expr} {es : List Expr} {p pos : Pos}
theorem x_all (hc : X.calm = true) (hm : X.mg "all" = none) (ha : PA X (ex :: es) (tL G W g)) (hg : Gl X "all" := by rfl) (he : starEach (ex :: es) X.env = (false, eval ex X.env) :: starEach es X.env := by rfl) (hpl : (backTo pos (starEach es X.env)).any (·.1) = false := by rfl) (hK : X.K = G.K := by rfl) :
    PE X (.Call (.Name "all" p) (ex :: es) [] pos) (tX G W (fP oAll g)) := px_bltf pr_all (hK ▸ cr_all hc) hg hm (by decide +kernel) ha (by decide) (by decide) he hpl
theorem x_any (hc : X.calm = true) (hm : X.mg "any" = none) (ha : PA X (ex :: es) (tL G W g)) (hg : Gl X "any" := by rfl) (he : starEach (ex :: es) X.env = (false, eval ex X.env) :: starEach es X.env := by rfl) (hpl : (backTo pos (starEach es X.env)).any (·.1) = false := by rfl) (hK : X.K = G.K := by rfl) :
    PE X (.Call (.Name "any" p) (ex :: es) [] pos) (tX G W (fP oAny g)) := px_bltf pr_any (hK ▸ cr_any hc) hg hm (by decide +kernel) ha (by decide) (by decide) he hpl
end
/-! ### enumerate -/
def enD : Nat → List D → List D
  | _, [] => []
  | k, d :: ds => .tup [.int (k : Int), d] :: enD (k + 1) ds
theorem enD_len : ∀ (k : Nat) (ds : List D), (enD k ds).length = ds.length
  | _, [] => rfl
  | k, d :: ds => by rw [enD, List.length_cons, enD_len (k + 1) ds, List.length_cons]
theorem enD_get : ∀ (k : Nat) (ds : List D) (i : Nat) (d : D), ds[i]? = some d → (enD k ds)[i]? = some (.tup [.int ((k + i : Nat) : Int), d])
  | _, [], i, d, h => by simp at h
  | k, d0 :: ds, 0, d, h => by simp at h; subst h; rfl
  | k, d0 :: ds, i + 1, d, h => by
    have q := enD_get (k + 1) ds i d (by simpa using h)
    rw [enD, List.getElem?_cons_succ, q]
    congr 4
    omega
def fEnum (g : Env → Res (List AO)) (t : O → Env → Option Env) (body : Env → SRes) : Env → SRes := fun e => match g e with
  | .er x e1 => .er x e1
  | .no => .no
  | .ok as e1 => match pass [.im] as e1 with
    | some ([o], e2, _) => match itL o with
      | none => .no
      | some ds => runFor t body (enD 0 ds) e2
    | _ => .no
theorem qp_enum {iter : Expr} {elts : List Expr} {kk : Nat} {st : List Stmt} {g : Env → Res (List AO)} {gt : TG} {t : O → Env → Option Env} {body : Env → SRes} {p pos pos' tpos : Pos} (hp : PassesOwn (model X.prog X.w) X.A X.env X.xe) (hc : X.calm = true) (hg : TGok G B gt t) (hgl : Gl X "enumerate") (hm : X.mg "enumerate" = none)
    (ha : PA X [iter] (tL G W g)) (pg : PG X (.Tuple elts kk tpos) gt) (hb : PSs X st (tS G W B body)) (hs : starEach [iter] X.env = [(false, eval iter X.env)] := by rfl) (hK : X.K = G.K := by rfl) : PS X (.For (.Tuple elts kk tpos) (.Call (.Name "enumerate" p) [iter] [] pos') st [] pos) (tS G W B (fEnum g t body)) := by
  refine psW (ps_for hp hc (pi_enum hgl hm ha hs) pg hb) fun DD s H h => run_args h fun R e1 as vs H1 A1 S1 hl ft z => ?_
  cases hq : pass [.im] as e1 with
  | none => rw [hq] at z; cases z
  | some r =>
    obtain ⟨os, e2, ws⟩ := r
    rw [hq] at z
    obtain ⟨A2, S2, m, l2, _, _, _⟩ := SR.passes [] [] rfl S1 hl ft hq
    match os, l2, S2, z with
    | [], _, _, z => cases z
    | _ :: _ :: _, _, _, z => cases z
    | [o], l2, S2, z =>
      match vs, l2, S2 with
      | [v], _, S2 =>
        dsimp only at z
        cases hd : itL o with
        | none => rw [hd] at z; cases z
        | some ds =>
          rw [hd] at z
          dsimp only at z
          have S2 : SR G R H1 (some v :: s) (some o :: e2) A2 := S2
          obtain rfl : o = .im (.lst ds) := by
            unfold itL at hd
            split at hd
            · cases hd; rfl
            · cases hd
          have sl := S2.sl
          obtain ⟨A3, S3, m3⟩ := S2.tail
          cases sl with
          | so h0 _ =>
            cases h0 with
            | im h0 =>
              cases h0 with
              | @lst a vs _ l0 im =>
                have l0 := l0.go (Go.less (L' := fun a => a ∈ A3 ∨ R a) fun a z => z.imp (m3 a) id)
                have im := im.go (Go.less (L' := fun a => a ∈ A3 ∨ R a) fun a z => z.imp (m3 a) id)
                refine ⟨a, vs, rfl, by rw [hK]; exact l0.sq, ?_⟩
                rw [hK]
                refine for_it (walk_enum (xs := vs)) (fun i s' H' => ∃ e' A', Turn1 G W B R DD s H1 A3 t body ((enD 0 ds).drop i) s' H' e' A' ∧ LsAt G H' (fun a => a ∈ A' ∨ R a) a vs ∧ ImA G H' (fun a => a ∈ A' ∨ R a) vs ds) ⟨e2, A3, ⟨S3, keepB.refl, Fr.refl, z.sub keepB.refl (Fr.less fun a h => m a (m3 a h))⟩, l0, im⟩ ?_ ?_ ?_
                · rintro i s' H' _ ⟨e', A', T, l', im'⟩
                  exact l'.sq
                · rintro i x s' H' H'' hi ⟨e', A', T, l', im'⟩ ⟨p, x1, x2, rfl, hn, rfl, hx1, hx2⟩
                  cases hx1
                  obtain ⟨d, hd, ix⟩ := im'.getV hx2
                  have gd := enD_get 0 ds i d hd
                  have hdr : (enD 0 ds).drop i = .tup [.int (i : Nat), d] :: (enD 0 ds).drop (i + 1) := by
                    rw [List.drop_eq_getElem_cons (lt_of_get gd)]
                    congr 1
                    rw [List.getElem?_eq_getElem (lt_of_get gd)] at gd
                    rw [Option.some.inj gd, Nat.zero_add]
                  rw [hdr] at T
                  have gp : Go H' (fun a => a ∈ A' ∨ R a) (upd H' p (.tup [.int (i : Nat), x2])) (fun a => a ∈ A' ∨ R a) := go_push hn
                  have T' : Turn1 G W B R DD s H1 A3 t body (.tup [.int (i : Nat), d] :: (enD 0 ds).drop (i + 1)) s' (upd H' p (.tup [.int (i : Nat), x2])) e' A' := ⟨T.S.push hn, T.kb, T.F.trans (Fr.push (q := false) hn), T.z⟩
                  refine T'.step hg (.tup (.inl ⟨.inl upd_same, fun z => ?_⟩) (.cons (.int _) (.cons (ix.go gp) .nil))) _ fun s2 H2 e2 A2 T2 F2 => ⟨e2, A2, T2, (l'.go gp).go F2.go, (im'.go gp).go F2.go⟩
                  rcases z with z | z
                  · obtain ⟨u, hu⟩ := T.S.dom _ z; rw [hn] at hu; cases hu
                  · obtain ⟨u, hu⟩ := T.S.ft _ z; rw [hn] at hu; cases hu
                · rintro s' H' ⟨e', A', T, l', im'⟩
                  have hz := T.z
                  rw [im.length, ← enD_len 0 ds, List.drop_length] at hz
                  exact hz s' H' A' T.S T.kb T.F
end
end PV

set_option Elab.async false
set_option linter.all false
set_option maxRecDepth 100000
set_option maxHeartbeats 4000000
/-! PVu: sorted(set(xs)), xs fewer than 64 tuples of ints from 0 on, all of one length -/
namespace PV
open PySem L2
/-! ### the maths -/
theorem code_inj {B : Int} : ∀ {xs ys : List Int}, xs.length = ys.length → TS.Bd B xs → TS.Bd B ys → TS.code B xs = TS.code B ys → xs = ys
  | [], [], _, _, _, _ => rfl
  | [], _ :: _, h, _, _, _ => by simp at h
  | _ :: _, [], h, _, _, _ => by simp at h
  | x :: xs, y :: ys, h, bx, hy, e => by
    have hl : xs.length = ys.length := by simpa using h
    rcases Int.lt_trichotomy x y with k | k | k
    · have := TS.code_lt hl bx.tail hy.tail k; omega
    · subst k
      have e2 : TS.code B xs = TS.code B ys := by
        have e3 : x * B ^ xs.length + TS.code B xs = x * B ^ ys.length + TS.code B ys := e
        rw [hl] at e3
        omega
      rw [code_inj hl bx.tail hy.tail e2]
    · have := TS.code_lt hl.symm hy.tail bx.tail k; omega
def dd : List (List Int) → List (List Int)
  | [] => []
  | x :: xs => if x ∈ xs then dd xs else x :: dd xs
theorem mem_dd {x : List Int} : ∀ {xs : List (List Int)}, x ∈ dd xs ↔ x ∈ xs
  | [] => Iff.rfl
  | y :: xs => by
    unfold dd
    split
    · rename_i h
      rw [mem_dd, List.mem_cons]
      exact ⟨.inr, fun z => z.elim (fun e => e ▸ h) id⟩
    · rw [List.mem_cons, List.mem_cons, mem_dd]
theorem nodup_dd : ∀ (xs : List (List Int)), (dd xs).Nodup
  | [] => List.nodup_nil
  | y :: xs => by
    unfold dd
    split
    · exact nodup_dd xs
    · rename_i h
      exact List.nodup_cons.mpr ⟨fun m => h (mem_dd.mp m), nodup_dd xs⟩
def bnd (ks : List (List Int)) : Int := 1 + (((ks.flatten.map Int.natAbs).sum : Nat) : Int)
theorem le_sumN {x : Nat} : ∀ {l : List Nat}, x ∈ l → x ≤ l.sum
  | y :: l, h => by
    rw [List.sum_cons]
    rcases List.mem_cons.mp h with e | h
    · omega
    · have := le_sumN h; omega
theorem bnd_ok {ks : List (List Int)} {k : List Int} (h : k ∈ ks) (hn : ∀ m ∈ k, 0 ≤ m) : TS.Bd (bnd ks) k := fun m hm => by
  have q : m.natAbs ∈ ks.flatten.map Int.natAbs := List.mem_map_of_mem (List.mem_flatten.mpr ⟨k, h, hm⟩)
  have := le_sumN q
  have := hn m hm
  unfold bnd
  constructor <;> omega
def okT (ks : List (List Int)) : Bool := decide (ks.length < 64) && ks.all fun k => decide (k.length = (ks.headD []).length) && decide (1 ≤ k.length) && k.all fun m => decide (0 ≤ m)
/-- the tuples, each once, ascending -/
def sortT (ks : List (List Int)) : List (List Int) := (dd ks).mergeSort fun x y => decide (TS.code (bnd ks) x ≤ TS.code (bnd ks) y)
theorem mem_sortT {x : List Int} {ks : List (List Int)} : x ∈ sortT ks ↔ x ∈ ks := by rw [sortT, List.mem_mergeSort, mem_dd]
theorem sortT_uniq {ks l : List (List Int)} (ok : okT ks = true) (hm : ∀ x, x ∈ l ↔ x ∈ ks) (hn : l.Nodup) (hp : l.Pairwise fun x y => TS.code (bnd ks) x ≤ TS.code (bnd ks) y) : l = sortT ks := by
  have p2 : (sortT ks).Pairwise fun x y => decide (TS.code (bnd ks) x ≤ TS.code (bnd ks) y) = true := List.pairwise_mergeSort (fun a b c h1 h2 => by simp at *; omega) (fun a b => by simp; omega) _
  have n2 : (sortT ks).Nodup := (List.mergeSort_perm _ _).nodup_iff.mpr (nodup_dd ks)
  have pm : l.Perm (sortT ks) := (List.perm_ext_iff_of_nodup hn n2).mpr fun a => by rw [hm, mem_sortT]
  unfold okT at ok
  rw [Bool.and_eq_true, List.all_eq_true] at ok
  have prop : ∀ x ∈ ks, x.length = (ks.headD []).length ∧ TS.Bd (bnd ks) x := fun x hx => by
    have q := ok.2 x hx
    simp only [Bool.and_eq_true, decide_eq_true_eq, List.all_eq_true] at q
    exact ⟨q.1.1, bnd_ok hx q.2⟩
  refine List.Perm.eq_of_pairwise (le := fun x y => TS.code (bnd ks) x ≤ TS.code (bnd ks) y) (fun a b ha hb h1 h2 => ?_) hp (p2.imp fun h => by simpa using h) pm
  have pa := prop a ((hm a).mp ha)
  have pb := prop b (mem_sortT.mp hb)
  exact code_inj (by rw [pa.1, pb.1]) pa.2 pb.2 (by omega)
/-! ### the things -/
def tupI : D → Option (List Int)
  | .tup ds => intsD ds
  | _ => none
def tupsI : List D → Option (List (List Int))
  | [] => some []
  | d :: ds => match tupI d, tupsI ds with
    | some k, some ks => some (k :: ks)
    | _, _ => none
def tD (k : List Int) : D := .tup (k.map D.int)
theorem intsD_eq : ∀ {ds : List D} {ns : List Int}, intsD ds = some ns → ds = ns.map D.int
  | [], ns, h => by simp [intsD] at h; subst h; rfl
  | d :: ds, ns, h => by
    cases d with
    | int i =>
      simp only [intsD, Option.map_eq_some_iff] at h
      obtain ⟨ms, h1, rfl⟩ := h
      rw [intsD_eq h1]; rfl
    | _ => simp [intsD] at h
theorem tupsI_eq : ∀ {ds : List D} {ks : List (List Int)}, tupsI ds = some ks → ds = ks.map tD
  | [], ks, h => by simp [tupsI] at h; subst h; rfl
  | d :: ds, ks, h => by
    unfold tupsI at h
    cases h1 : tupI d with
    | none => rw [h1] at h; cases h
    | some k =>
      cases h2 : tupsI ds with
      | none => rw [h1, h2] at h; cases h
      | some ks' =>
        rw [h1, h2] at h
        cases h
        rw [tupsI_eq h2]
        cases d with
        | tup ds' => rw [show ds' = k.map D.int from intsD_eq h1]; rfl
        | _ => cases h1
section
variable {G : Cl}
theorem imInts {H : Hp} {L : Addr → Prop} : ∀ {ns : List Int} {vs : List V}, ImA G H L vs (ns.map D.int) → vs = ns.map V.int
  | [], _, .nil => rfl
  | n :: ns, _, .cons h r => by cases h; rw [imInts r]; rfl
/-- the tuples' addresses -/
theorem imTups {H : Hp} {L : Addr → Prop} : ∀ {ks : List (List Int)} {vs : List V}, ImA G H L vs (ks.map tD) → ∃ ps : List (Addr × List Int), ps.map (·.2) = ks ∧ vs = (ps.map fun p => V.ref p.1) ∧ ∀ p ∈ ps, TpAt G H L p.1 (p.2.map V.int)
  | [], _, .nil => ⟨[], rfl, rfl, fun _ h => by cases h⟩
  | k :: ks, _, .cons h r => by
    obtain ⟨ps, h1, h2, h3⟩ := imTups r
    cases h with
    | @tup a vs _ l im =>
      have e := imInts im
      subst e
      refine ⟨(a, k) :: ps, by simp [h1], by simp [h2], fun p hp => ?_⟩
      rcases List.mem_cons.mp hp with e | hp
      · subst e; exact l
      · exact h3 p hp
theorem intsIm {H : Hp} {L : Addr → Prop} : ∀ (ns : List Int), ImA G H L (ns.map V.int) (ns.map D.int)
  | [] => .nil
  | n :: ns => .cons (.int n) (intsIm ns)
theorem tupsIm {H : Hp} {L : Addr → Prop} : ∀ {ps : List (Addr × List Int)}, (∀ p ∈ ps, TpAt G H L p.1 (p.2.map V.int)) → ImA G H L (ps.map fun p => V.ref p.1) (ps.map fun p => tD p.2)
  | [], _ => .nil
  | p :: ps, h => .cons (.tup (h p List.mem_cons_self) (intsIm p.2)) (tupsIm fun q hq => h q (List.mem_cons_of_mem _ hq))
def rSS (K : PySem.W.Frag) (P : Program) (w : World) : List V → Hp → VK → Prop := fun xs H Q => rSetOfT K P w xs H fun v H2 => rSortedT K P w [v] H2 Q
def oSS : List O → Option O
  | [o] => (lstD o).bind fun ds => (tupsI ds).bind fun ks => if okT ks = true then some (.ls ((sortT ks).map fun k => .im (tD k))) else none
  | _ => none
theorem pr_SS (P : Program) (w : World) : Prim G (rSS G.K P w) oSS := by
  intro R s e A B H vs os o Q S r h k
  unfold oSS at h
  split at h
  · rename_i o1
    rw [Option.bind_eq_some_iff] at h
    obtain ⟨ds, h1, h⟩ := h
    rw [Option.bind_eq_some_iff] at h
    obtain ⟨ks, h2, h⟩ := h
    split at h
    · rename_i ok
      cases h
      obtain ⟨v, C, rfl, r1⟩ := ow1 r
      obtain ⟨a, vs, rfl, h3, im⟩ := lstD_ok r1 h1
      rw [tupsI_eq h2] at im
      obtain ⟨ps, p1, p2, p3⟩ := imTups im
      subst p2
      have ok2 := ok
      unfold okT at ok2
      rw [Bool.and_eq_true, List.all_eq_true, decide_eq_true_eq] at ok2
      have prop : ∀ x ∈ ks, x.length = (ks.headD []).length ∧ 1 ≤ x.length ∧ TS.Bd (bnd ks) x := fun x hx => by
        have q := ok2.2 x hx
        simp only [Bool.and_eq_true, decide_eq_true_eq, List.all_eq_true] at q
        exact ⟨q.1.1, q.1.2, bnd_ok hx q.2⟩
      have mk : ∀ p ∈ ps, p.2 ∈ ks := fun p hp => by rw [← p1]; exact List.mem_map_of_mem hp
      refine ⟨a, ps, rfl, .inl h3, fun p hp => (p3 p hp).sq, by have := congrArg List.length p1; rw [List.length_map] at this; omega, fun b L hb hL hc => ?_⟩
      by_cases hz : ks = []
      · subst hz
        have hLn : L = [] := by
          cases L with
          | nil => rfl
          | cons q L => have := mk q (hL q List.mem_cons_self); cases this
        subst hLn
        refine ⟨b, [], 1, 1, rfl, upd_same, fun p hp => (by cases hp), Nat.le_refl _, fun p hp => (by cases hp), fun L' p pm _ _ _ np => ?_⟩
        rw [List.perm_nil.mp pm]
        obtain ⟨S2, F2⟩ := SR.newi (vs := []) (ds := []) (S.push (u := SetTO P w b []) hb) np .nil
        have e0 : sortT [] = [] := List.eq_nil_iff_forall_not_mem.mpr fun x hx => by have := mem_sortT.mp hx; cases this
        rw [e0] at k
        exact k _ _ _ S2 ((Fr.push (q := false) hb).trans F2)
      · have hd : 1 ≤ (ks.headD []).length := by
          cases ks with
          | nil => exact absurd rfl hz
          | cons x xs => exact (prop x List.mem_cons_self).2.1
        refine ⟨b, L, (ks.headD []).length, bnd ks, rfl, upd_same, fun p hp => ((p3 p (hL p hp)).go (go_push hb)).sq, hd, fun p hp => ⟨(prop _ (mk p (hL p hp))).1, (prop _ (mk p (hL p hp))).2.2⟩, fun L' p pm nd _ pw np => ?_⟩
        have u : L'.map (·.2) = sortT ks := sortT_uniq ok (fun x => ⟨fun hx => by
            obtain ⟨q, hq, rfl⟩ := List.mem_map.mp hx
            exact mk q (hL q (pm.mem_iff.mp hq)), fun hx => by
            rw [← p1] at hx
            obtain ⟨q, hq, rfl⟩ := List.mem_map.mp hx
            exact (pm.map (·.2)).mem_iff.mpr (hc q hq)⟩) nd (List.pairwise_map.mpr pw)
        have im2 := tupsIm (G := G) (H := upd H b (SetTO P w b L)) (L := fun a => a ∈ A ∨ R a) (ps := L') fun q hq => (p3 q (hL q (pm.mem_iff.mp hq))).go (go_push hb)
        obtain ⟨S2, F2⟩ := SR.newi (S.push (u := SetTO P w b L) hb) np im2
        have e2 : (L'.map fun p => tD p.2) = (sortT ks).map tD := by rw [← u, List.map_map]; rfl
        rw [e2, List.map_map] at S2
        exact k _ _ _ S2 ((Fr.push (q := false) hb).trans F2)
    · cases h
  · cases h
end
section
variable {X : Cx} {W : WX} {G : Cl} {g : Env → Res (List AO)} {a : Expr} {p p2 q pos : Pos}
theorem x_SS (hc : X.calm = true) (hu : X.A.units + 65 < cLine) (hm : X.mg "sorted" = none) (hm2 : X.mg "set" = none) (ha : PA X [a] (tL G W g)) (hg : Gl X "sorted" := by rfl) (hg2 : Gl X "set" := by rfl)
    (he : starEach [a] X.env = (false, eval a X.env) :: starEach [] X.env := by rfl) (hpl : (backTo q (starEach [] X.env)).any (·.1) = false := by rfl)
    (he2 : starEach [.Call (.Name "set" p2) [a] [] q] X.env = (false, eval (.Call (.Name "set" p2) [a] [] q) X.env) :: starEach [] X.env := by rfl) (hpl2 : (backTo pos (starEach [] X.env)).any (·.1) = false := by rfl) (hK : X.K = G.K := by rfl) :
    PE X (.Call (.Name "sorted" p) [.Call (.Name "set" p2) [a] [] q] [] pos) (tX G W (fP oSS g)) :=
  peW (pe_callB (cr_sortedT hc) hg hm PyProof.Rows.boot_sorted (pa_cons (pe_callTy (cr_setOfT hc (by omega)) hg2 hm2 PyProof.Rows.boot_set ha (by decide) (by decide) he hpl) pa_nil he2) (by decide) (by decide) he2 hpl2) fun s H Q h => by
    have z := run_prim (pr_SS X.prog X.w) h
    rw [← hK] at z
    exact z
end
/-! ### len(set(xs)) -/
def rLenT (K : PySem.W.Frag) (P : Program) (w : World) : List V → Hp → VK → Prop := fun xs H Q => ∃ (a : Addr) (L : List (Addr × List Int)), xs = [V.ref a] ∧ H a = some (SetTO P w a L) ∧ (∀ p ∈ L, SqT K H p.1 (p.2.map V.int)) ∧ ((L.map (·.2)).Nodup → Q (.int (L.length : Nat)) H)
theorem cr_lenT {X : Cx} : CallR X (.builtin "len") (rLenT X.K X.prog X.w) := by
  intro pins s σ H xs us Q I r h
  obtain ⟨a, L, rfl, ha, hk, q⟩ := h
  have R0 : SetT0 X.prog X.w s.heap a L := (I.hok a _ ha).1
  obtain ⟨es, ep, t, R⟩ := R0.full fun p hp => I.isT (hk p hp)
  rw [Vals.ref1 r]
  obtain ⟨o, ho, hex, hd⟩ := R.ob
  have hn : es.size = L.length := by
    have e := congrArg List.length R.rows
    rw [Array.length_toList] at e
    rw [e, rowsOf, List.length_map]
  refine PySem.call_len_set ho hex hd R.fits (by have := R.few; rw [hn]; omega) ⟨.int (L.length : Nat), H, I.tok _, ⟨_, by rw [hn]⟩, q R.nd⟩
def rLS (K : PySem.W.Frag) (P : Program) (w : World) : List V → Hp → VK → Prop := fun xs H Q => rSetOfT K P w xs H fun v H2 => rLenT K P w [v] H2 Q
def oLS : List O → Option O
  | [o] => (lstD o).bind fun ds => (tupsI ds).bind fun ks => if ks.length < 64 then some (.im (.int ((dd ks).length : Nat))) else none
  | _ => none
section
variable {G : Cl}
theorem pr_LS (P : Program) (w : World) : Prim G (rLS G.K P w) oLS := by
  intro R s e A B H vs os o Q S r h k
  unfold oLS at h
  split at h
  · rename_i o1
    rw [Option.bind_eq_some_iff] at h
    obtain ⟨ds, h1, h⟩ := h
    rw [Option.bind_eq_some_iff] at h
    obtain ⟨ks, h2, h⟩ := h
    split at h
    · rename_i ok
      cases h
      obtain ⟨v, C, rfl, r1⟩ := ow1 r
      obtain ⟨a, vs, rfl, h3, im⟩ := lstD_ok r1 h1
      rw [tupsI_eq h2] at im
      obtain ⟨ps, p1, p2, p3⟩ := imTups im
      subst p2
      have mk : ∀ p ∈ ps, p.2 ∈ ks := fun p hp => by rw [← p1]; exact List.mem_map_of_mem hp
      refine ⟨a, ps, rfl, .inl h3, fun p hp => (p3 p hp).sq, by have := congrArg List.length p1; rw [List.length_map] at this; omega, fun b L hb hL hc => ?_⟩
      refine ⟨b, L, rfl, upd_same, fun p hp => ((p3 p (hL p hp)).go (go_push hb)).sq, fun nd => ?_⟩
      have e : L.length = (dd ks).length := by
        have pm : (L.map (·.2)).Perm (dd ks) := (List.perm_ext_iff_of_nodup nd (nodup_dd ks)).mpr fun x => by
          rw [mem_dd]
          refine ⟨fun hx => ?_, fun hx => ?_⟩
          · obtain ⟨q, hq, rfl⟩ := List.mem_map.mp hx
            exact mk q (hL q hq)
          · rw [← p1] at hx
            obtain ⟨q, hq, rfl⟩ := List.mem_map.mp hx
            exact hc q hq
        have := pm.length_eq
        rwa [List.length_map] at this
      rw [e]
      have S2 := S.push (u := SetTO P w b L) hb
      exact k _ _ A ⟨.so (A := []) (.im (.int _)) S2.sl, S2.nd, S2.dj, S2.ft⟩ (Fr.push hb)
    · cases h
  · cases h
variable {X : Cx} {W : WX} {g : Env → Res (List AO)} {a : Expr} {p p2 q pos : Pos}
theorem x_LS (hc : X.calm = true) (hu : X.A.units + 65 < cLine) (hm : X.mg "len" = none) (hm2 : X.mg "set" = none) (ha : PA X [a] (tL G W g)) (hg : Gl X "len" := by rfl) (hg2 : Gl X "set" := by rfl)
    (he : starEach [a] X.env = (false, eval a X.env) :: starEach [] X.env := by rfl) (hpl : (backTo q (starEach [] X.env)).any (·.1) = false := by rfl)
    (he2 : starEach [.Call (.Name "set" p2) [a] [] q] X.env = (false, eval (.Call (.Name "set" p2) [a] [] q) X.env) :: starEach [] X.env := by rfl) (hpl2 : (backTo pos (starEach [] X.env)).any (·.1) = false := by rfl) (hK : X.K = G.K := by rfl) :
    PE X (.Call (.Name "len" p) [.Call (.Name "set" p2) [a] [] q] [] pos) (tX G W (fP oLS g)) :=
  peW (pe_callB cr_lenT hg hm PySem.boot_len (pa_cons (pe_callTy (cr_setOfT hc (by omega)) hg2 hm2 PyProof.Rows.boot_set ha (by decide) (by decide) he hpl) pa_nil he2) (by decide) (by decide) he2 hpl2) fun s H Q h => by
    have z := run_prim (pr_LS X.prog X.w) h
    rw [← hK] at z
    exact z
end
end PV

set_option Elab.async false
set_option linter.all false
set_option maxRecDepth 100000
set_option maxHeartbeats 4000000
/-! PWe: an exception is caught and held: try: .. except C as e: name = e. -/
namespace PV
open PySem PySem.Spec PyProof.Rows L2

theorem xO_ok {P : Program} {w : World} {H : Hp} {h : Heap} {a : Addr} {cls : Value} {d : Option Addr} {oe : Obj} {vs : Array Value} (e : h.get? a = some oe) (z : Zc cls d oe) (dt : oe.data = .fields vs) : ObjOk P w H h a (xO cls d a) :=
  ⟨⟨oe, vs, e, z, dt⟩, ⟨oe, e⟩, fun _ _ ⟨o, v, q, r⟩ k => ⟨o, v, k o q, r⟩⟩
theorem xO_at {P : Program} {w : World} {H : Hp} {h : Heap} {a : Addr} {cls : Value} {d : Option Addr} (hok : HOk P w H h) (e : H a = some (xO cls d a)) : ∃ (oe : Obj) (vs : Array Value), h.get? a = some oe ∧ Zc cls d oe ∧ oe.data = .fields vs :=
  (hok a _ e).1
theorem sky_new {B : Heap} {l : List PySem.Env} {a L : Addr} {Z : Obj → Prop} {h : Heap} (y : Sky B l a Z L h) : B.get? a = none := by
  rcases y with y | y | y <;> exact y.2.1

section
variable {X : Cx} {pins : List (Addr × Obj)} {σ : L2.St} {H : Hp} {s : Shared}
/-- from here on the object at a is tracked -/
theorem hold {a : Addr} {oe : Obj} {vs : Array Value} {cls : Value} {d : Option Addr} (I : Inv X pins σ H s) (he : s.heap.get? a = some oe) (dt : oe.data = .fields vs) (z : Zc cls d oe) (na : H a = none) (n0 : X.s_0.heap.get? a = none)
    (nL : a ≠ X.env.locals) (np : ∀ p ∈ X.pn ++ pins, p.1 ≠ a) : Inv X pins σ (upd H a (xO cls d a)) s := by
  have ne : ∀ {b : Addr} {u : HO}, H b = some u → b ≠ a := fun {b u} q e => by rw [e, na] at q; cases q
  refine { ok := I.ok, os := I.os, bare := I.bare, base := ?_, loc := I.loc, cell := I.cell, free := ?_, freeC := ?_, pin := ?_, hok := HOk.laidN I.hok (fun _ _ q => q) na (xO_ok he z dt), len := I.len }
  · have u := I.base
    refine ⟨u.keep, u.slot, fun b o e n x => ?_, u.there, fun b xs e => ?_, fun b o v e => ?_, fun b ps e => ?_⟩
    · rw [upd_ne (fun q => by rw [q, n0] at e; cases e)]; exact u.free b o e n x
    · have q := u.tups b xs e
      rw [upd_ne (ne q)]; exact q
    · have q := u.frzs b o v e
      rw [upd_ne (ne q)]; exact q
    · obtain ⟨more, q⟩ := u.tbls b ps e
      exact ⟨more, by rw [upd_ne (ne q)]; exact q⟩
  · rw [upd_ne nL.symm]; exact I.free
  · intro y c e
    have q : c ≠ a := fun q => by
      obtain ⟨v, o, ho, hd⟩ := I.cell y c e
      rw [q, he] at ho
      cases ho
      rw [dt] at hd
      cases hd
    rw [upd_ne q]; exact I.freeC y c e
  · intro p hp
    obtain ⟨h1, h2, h3⟩ := I.pin p hp
    exact ⟨h1, by rw [upd_ne (np p hp)]; exact h2, h3⟩

/-- what 'except c as n: m = n' wishes of an exception of the body: slot i is n's, slot j m's -/
def wKeep (K : PySem.W.Frag) (c : Value) (i j : Nat) (Wout : WX) (D : Ends) : WX := fun cls d σ H => ∃ b, PySem.W.exmOne K cls c = some b ∧
  (b = true → ∀ a, H a = none → D.nx (((σ.set i (some (.ref a))).set j (some (.ref a))).set i none) (upd H a (xO cls d a))) ∧ (b = false → Wout cls d σ H)
/-- .. and what its suite does -/
def tKeep (i j : Nat) : TS := fun D σ H => ∃ v, σ[i]? = some (some v) ∧ D.nx (σ.set j (some v)) H
end

section
variable {X : Cx} {x n : Str} {c : Value} {i j : Nat} {body suite : List Stmt} {b0 : Stmt} {np po po' : Pos} {tb : WX → TS} {Wout : WX}
theorem ps_try_keep (hs : X.stack = X.env :: X.outer) (hex : X.ex = []) (hf : X.env.frame = some X.env.locals) (hN : X.N.Nodup) (hi : X.N[i]? = some n) (hln : X.env.kindOf n = some .local) (hc : Names X x c) (tk : Takes X Wout)
    (hb : ∀ (W : WX) (pn : List (Addr × Obj)) (xe : Value → Shared → Prop), Takes (X.tr pn xe) W → PassesOwn (model X.prog X.w) X.A X.env xe → PSs (X.tr pn xe) body (tb W))
    (hsu : ∀ (a : Addr) (oe : Obj) (pn : List (Addr × Obj)), PSs (X.suite a ((a, oe) :: pn)) (b0 :: suite) (tKeep i j)) :
    PS X (.Try body [.ExceptHandler (some (.Name x np)) (some n) (b0 :: suite) po'] [] [] po) (fun D σ H => tb (wKeep X.K c i j Wout D) D σ H) := by
  constructor
  intro pins s σ H D I h
  have ok := I.ok
  have fr0 : X.A.frames = some (X.env :: X.outer) := ok.frames.trans (by rw [hs])
  refine wpAny_Try_except ?_
  have run := (hb (wKeep X.K c i j Wout D) (X.pn ++ pins) (fun e s1 => wpAny (model X.prog X.w) X.A (noteFrame e X.env) (fun _ s2 => wpAny (model X.prog X.w) X.A (setFlight e none) (fun _ s3 =>
    wpAny (model X.prog X.w) X.A (handleBy e X.env [.ExceptHandler (some (.Name x np)) (some n) (b0 :: suite) po']) (SP X pins D) X.xe s3) X.xe s2) X.xe s1) ?_ PassesOwn.looking).run [] s σ H D (I.toTry _) h
  · refine wpAny_mono run (fun f s1 z => ?_) fun e s1 z => z
    cases f with
    | next =>
      obtain ⟨σ', H', J, q⟩ := z
      exact wpAny_execs_nil ⟨σ', H', J.ofTry ok, q⟩
    | brk =>
      obtain ⟨σ', H', J, q⟩ := z
      exact ⟨σ', H', J.ofTry ok, q⟩
    | cont =>
      obtain ⟨σ', H', J, q⟩ := z
      exact ⟨σ', H', J.ofTry ok, q⟩
    | ret u =>
      obtain ⟨v, σ', H', J, r, q⟩ := z
      exact ⟨v, σ', H', J.ofTry ok, r, q⟩
  -- it is caught
  rintro u s' ⟨a, B, sI, pn', σ', H', cls, d, rfl, J0, nb, up, sky, na, os, ag, b, hb1, yes, no⟩
  have J : Inv X pins σ' H' sI := J0.ofTry ok
  have newB : B.get? a = none := sky_new sky
  have sky2 : Sky B (X.env :: X.outer) a (Zc cls d) X.env.locals s'.heap := hs ▸ sky
  show wpAny (model X.prog X.w) X.A (noteFrame (.ref a) X.env) _ _ _
  refine Sky.land Zc.steady fr0 hf sky2 fun h3 fl3 up3 => ?_
  have J3 : Inv X pins σ' H' { s' with heap := h3 } := J.landed nb fl3.1 (up.trans up3) os ag
  obtain ⟨o3, v3, g3, z3, d3⟩ := fl3.there
  have nfr : a ∉ frs (X.env :: X.outer) := fun hm => by
    obtain ⟨_, o', e', k⟩ := fl3.2.2.1.mem hm
    rw [g3] at e'
    cases e'
    exact k _ d3
  have nL : a ≠ X.env.locals := fun z => nfr (List.mem_filterMap.mpr ⟨X.env, List.mem_cons_self, hf.trans (by rw [z])⟩)
  have nF : a ∉ X.fs := fun hm => nfr (by
    obtain ⟨e, he, q⟩ := List.mem_filterMap.mp hm
    exact List.mem_filterMap.mpr ⟨e, List.mem_cons_of_mem _ he, q⟩)
  have nI : sI.heap.get? a = none := by
    cases e : sI.heap.get? a with
    | none => rfl
    | some o =>
      have q := nb a o e (by rw [hs]; exact nfr)
      rw [newB] at q; cases q
  have n0 : X.s_0.heap.get? a = none := by
    cases e : X.s_0.heap.get? a with
    | none => rfl
    | some o =>
      obtain ⟨o', q⟩ := J.base.there a o e (by rw [hex]; simp)
      rw [nI] at q; cases q
  have npn : ∀ p ∈ X.pn ++ pins, p.1 ≠ a := fun p hp z => by
    have q := (J.pin p hp).1
    rw [z, nI] at q; cases q
  have S3 := J3.suite g3 d3 na nL nF
  refine wpAny_handleBy_cons (codeAny_handlers_test ?_) (by intro q; cases q)
  have LT : PySem.W.Looks (model X.prog X.w) h3 (typeOf (.ref a)) cls := fun A Q E s k q => wpAny_typeOf_ref (k _ _ g3) (z3.1.symm ▸ q)
  have LM := PySem.W.exm_one (M := model X.prog X.w) J3.kIn LT hb1
  have test : ∀ {Q : Value → Shared → Prop} {E : Value → Shared → Prop}, Q c { s' with heap := h3 } → wpAny (model X.prog X.w) (X.A.mark (some (.ref a))) (eval (.Name x np) X.env) Q E { s' with heap := h3 } := by
    intro Q E q
    obtain ⟨g, dbg, y | ⟨y, w, nn⟩⟩ := hc
    · exact ld_glob (X := X.suite a ((a, o3) :: (X.pn ++ pins))) S3 g y q dbg
    · exact ld_blt (X := X.suite a ((a, o3) :: (X.pn ++ pins))) S3 g y w q nn dbg
  refine test (LM.here ?_)
  cases b with
  | false =>
    show wpAny _ X.A (handleBy (.ref a) X.env []) _ _ _
    refine wpAny_handleBy_nil ?_
    obtain ⟨_, _, _, oe, vs, T, oT, ts', he, hz, hd, h1, hr⟩ := id fl3
    unfold PySem.passOn
    refine wpAny_bind (wpAny_field he hd h1 ?_)
    rw [if_neg (by simp : ¬ ((Value.ref T == Value.none) = true))]
    have out : wpAny (model X.prog X.w) X.A (setFlight (.ref a) X.env.frame) (fun _ s4 => wpAny (model X.prog X.w) X.A (throw (.ref a) : Sem Flow) (SP X pins D) X.xe s4) X.xe { s' with heap := h3 } := by
      rw [hf]
      exact HandSPX.setFlight_upZ fl3 fun h4 hh4 up4 => wpAny_throw (tk _ _ ⟨a, B, sI, pins, σ', H', cls, d, rfl, J, nb, (up.trans up3).trans up4, .inr (.inr (hs.symm ▸ hh4)), na, os, ag, no rfl⟩)
    first
      | exact wpAny_bind (wpAny_pure (wpAny_bind out))
      | exact wpAny_bind out
  | true =>
    refine codeAny_handlers_suite_as (HandSPX.lands_againZ fl3 fun h4 fl4 up4 => ?_)
    have J4 : Inv X pins σ' H' { s' with heap := h4 } := J.landed nb fl4.1 ((up.trans up3).trans up4) os ag
    obtain ⟨o4, v4, g4, z4, d4⟩ := fl4.there
    have S4 := J4.suite g4 d4 na nL nF
    refine store_ok (X := X.suite a ((a, o4) :: (X.pn ++ pins))) (v := .ref a) S4 hN hi (.inl hln) rfl (fun s5 S5 => ?_) (.inr hln)
    have li : i < σ'.length := by
      rw [J.len]
      exact (List.getElem?_eq_some_iff.mp hi).1
    refine wpAny_mono ((hsu a o4 (X.pn ++ pins)).run [] s5 _ H' { nx := fun σ6 H6 => σ6 = (σ'.set i (some (.ref a))).set j (some (.ref a)) ∧ H6 = H', rt := fun _ _ => False } S5 ⟨.ref a, by rw [List.getElem?_set_self li], rfl, rfl⟩) (fun f s6 z => ?_) fun _ _ z => z.elim
    cases f with
    | next =>
      obtain ⟨σ6, H6, S6, e1, e2⟩ := z
      subst e1
      subst e2
      have at6 : s6.heap.get? a = some o4 := (S6.pin (a, o4) (List.mem_append_left _ List.mem_cons_self)).1
      exact gone_ok (hold (S6.unsuite ok) at6 d4 z4 na n0 nL npn) hN hi hln fun s7 J7 => ⟨_, _, J7, yes rfl a na⟩
    | brk =>
      obtain ⟨_, _, _, z⟩ := z
      exact z.elim
    | cont =>
      obtain ⟨_, _, _, z⟩ := z
      exact z.elim
    | ret u =>
      obtain ⟨_, _, _, _, _, z⟩ := z
      exact z.elim
end
end PV

set_option Elab.async false
set_option linter.all false
set_option maxRecDepth 100000
set_option maxHeartbeats 4000000
/-! PWx: try, raise, isinstance and fields of exceptions, as functions of the slots. -/
namespace PV
open PySem L2

/-! ### try: .. except C as e: m = e -/
section
variable {X : Cx} {W : WX} {G : Cl} {B : List Nat}
/-- i: e's slot, j: m's; ok: the classes that the clause takes -/
def fTry (i j : Nat) (ok : List Nat) (body : Env → SRes) : Env → SRes := fun e => match body e with
  | .er (.exc c fs) e1 => if c ∈ ok then .nx ((e1.set j (some (.im (.exc c fs)))).set i none) else .no
  | .er _ _ => .no
  | r => r
theorem set3 {α : Type} (l : List α) (i j : Nat) (a b c : α) : ((l.set i a).set j b).set i c = (l.set j b).set i c := by
  by_cases h : i = j
  · subst h; simp
  · rw [List.set_comm _ _ (Ne.symm h)]; simp [List.set_comm _ _ h]
/-- an exception in the air, held from here on -/
theorem XR.held {R : Addr → Prop} {H : Hp} {s : St} {e : Env} {A : List Addr} {cls : Value} {d : Option Addr} {c : Nat} {fs : List (Str × D)} {a : Addr} (S : SR G R H s e A) (r : XR G H (fun a => a ∈ A ∨ R a) cls d (.exc c fs)) (na : H a = none) :
    Im G (upd H a (xO cls d a)) (fun a => a ∈ A ∨ R a) (.ref a) (.exc c fs) := by
  have nL : ¬ (a ∈ A ∨ R a) := fun h => by
    rcases h with h | h
    · obtain ⟨u, q⟩ := S.dom a h; rw [na] at q; cases q
    · obtain ⟨u, q⟩ := S.ft a h; rw [na] at q; cases q
  generalize hx : D.exc c fs = x at r
  cases r with
  | non => cases hx; exact .exc0 upd_same nL
  | @dic c' dd ns vs ds a1 a2 a3 a4 =>
    cases hx
    exact .exc upd_same nL (by rw [upd_ne (fun z => by rw [z, na] at a1; cases a1)]; exact a1) a2 a3 (a4.go (go_push na))
theorem qp_try (i j : Nat) (ok : List Nat) {x n : Str} {cv : Nat} {st suite : List Stmt} {b0 : Stmt} {np po po' : Pos} {body : Env → SRes} (hi : i ∉ B) (hj : j ∉ B) (hs : X.stack = X.env :: X.outer) (hex : X.ex = []) (hf : X.env.frame = some X.env.locals) (hN : X.N.Nodup) (hni : X.N[i]? = some n)
    (hln : X.env.kindOf n = some .local) (hg : Gl X x) (hgd : (x == ("__debug__" : Str)) = false) (hgm : X.mg x = some (.ref (G.pl cv))) (ex : ∀ c ∈ ok, PySem.W.exmOne X.K (.ref (G.pl c)) (.ref (G.pl cv)) = some true) (tk : Takes X W)
    (hb : ∀ (W : WX) (pn : List (Addr × Obj)) (xe : Value → Shared → Prop), Takes (X.tr pn xe) W → PassesOwn (model X.prog X.w) X.A X.env xe → PSs (X.tr pn xe) st (tS G W B body))
    (hsu : ∀ (a : Addr) (oe : Obj) (pn : List (Addr × Obj)), PSs (X.suite a ((a, oe) :: pn)) (b0 :: suite) (tKeep i j)) :
    PS X (.Try st [.ExceptHandler (some (.Name x np)) (some n) (b0 :: suite) po'] [] [] po) (tS G W B (fTry i j ok body)) := by
  refine psW (ps_try_keep hs hex hf hN hni hln ⟨hg, hgd, .inl hgm⟩ tk (fun W pn xe t p => hb W pn xe t p) hsu) fun D s H ⟨R, e, A, S, z⟩ => ⟨R, e, A, S, ?_⟩
  unfold fTry at z
  cases hbe : body e with
  | nx e1 => rw [hbe] at z; exact z
  | rt o e1 => rw [hbe] at z; exact z
  | bk e1 => rw [hbe] at z; exact z
  | ct e1 => rw [hbe] at z; exact z
  | no => rw [hbe] at z; cases z
  | er x e1 =>
    rw [hbe] at z
    cases x with
    | exc c fs =>
      dsimp only at z
      by_cases hc : c ∈ ok
      · rw [if_pos hc] at z
        intro cls d s' H' A' S' r kb F
        have ecls : cls = .ref (G.pl c) := by
          generalize hx : PV.D.exc c fs = x at r
          cases r <;> (cases hx; rfl)
        refine ⟨true, by rw [ecls]; exact ex c hc, fun _ a na => ?_, fun q => by cases q⟩
        have im := r.held S' na
        have S1 := S'.push (u := xO cls d a) na
        have S2 : SR G R (upd H' a (xO cls d a)) (some (.ref a) :: s') (some (.im (.exc c fs)) :: e1) A' := ⟨.so (A := []) (.im im) S1.sl, S1.nd, S1.dj, S1.ft⟩
        have P2 : Fr0 H' A' (upd H' a (xO cls d a)) A' := Fr.push na
        have ls : s'.length = e1.length := S'.len
        have fin : ∀ A3, SR G R (upd H' a (xO cls d a)) ((s'.set j (some (.ref a))).set i none) ((e1.set j (some (.im (.exc c fs)))).set i none) A3 → (∀ a ∈ A3, a ∈ A') → D.nx (((s'.set i (some (.ref a))).set j (some (.ref a))).set i none) (upd H' a (xO cls d a)) := fun A3 S4 m4 => by
          rw [set3]
          exact z _ _ A3 S4 ((kb.trans (keepB.set hj)).trans (keepB.set hi)) ((F.trans P2).sub m4)
        by_cases hjl : j < s'.length
        · obtain ⟨A2, S3, m3⟩ := S2.store hjl
          obtain ⟨A3, S4, m4⟩ := S3.wipe1 i none
          exact fin A3 S4 fun a m => m3 a (m4 a m)
        · obtain ⟨A3, S4, m4⟩ := S1.wipe1 i none
          have e1' : s'.set j (some (V.ref a)) = s' := List.set_eq_of_length_le (by omega)
          have e2' : e1.set j (some (O.im (PV.D.exc c fs))) = e1 := List.set_eq_of_length_le (by omega)
          refine fin A3 ?_ m4
          rw [e1', e2']
          exact S4
      · rw [if_neg hc] at z; cases z
    | _ => cases z
/-- its suite -/
theorem pk_set {Y : Cx} (i j : Nat) {m n : Str} {p1 p2 p3 : Pos} (hN : Y.N.Nodup) (hj : Y.N[j]? = some m) (hl : Loc Y.env.scope m) (hi : Y.N[i]? = some n) (hv : Vis Y.env.scope n) (hd : (n == ("__debug__" : Str)) = false) (hcd : (n == ("__classdict__" : Str)) = false)
    (hs : swapsWith (.Name n p2) (some (.Name m p1)) p3.line Y.env = pure false) (hf : Y.fn m = true ∨ Y.env.scope.names.lookup m = some .local) : PSs Y [.Assign [.Name m p1] (.Name n p2) p3] (tKeep i j) :=
  pssW (pss_one (ps_set hN hj hl (pe_var hi hv hd hcd) hs hf)) fun D s H ⟨v, h1, h2⟩ => ⟨v, h1, h2⟩

/-! ### isinstance -/
def excN (o : O) : Option Nat := match o with
  | .im (.exc c _) => some c
  | _ => none
/-- a value's type for isinstance, exceptions among them -/
def rIsiG (K : PySem.W.Frag) : List V → Hp → VK → Prop := fun xs H Q => rIsi K xs H Q ∨ ∃ (a D : Addr) (d : Option Addr) (cl : V) (u : Value) (b : Bool), xs = [.ref a, cl] ∧ ClsV cl u ∧ H a = some (xO (.ref D) d a) ∧
  (d = none ∨ ∃ dd fs, d = some dd ∧ H dd = some (.xd fs)) ∧ ExcC K D ∧ PySem.W.kitOne K (.ref D) u = some b ∧ Q (.bl b) H
theorem inst_xO {K : PySem.W.Frag} {pins : List (Addr × Obj)} {σ : St} {H : Hp} {s : Shared} {a D : Addr} {d : Option Addr} (I : Inv X pins σ H s) (h : H a = some (xO (.ref D) d a)) (hd : d = none ∨ ∃ dd fs, d = some dd ∧ H dd = some (.xd fs)) :
    ∃ oe od, PySem.W.InstAt s.heap a oe D od ∧ (d = none → od = none) := by
  obtain ⟨oe, vs, g, z, dt⟩ := xO_at I.hok h
  obtain ⟨oc, odd, oda, osl⟩ := oe
  obtain ⟨h1, h2⟩ := z
  dsimp only at h1 h2 dt
  subst h1 h2 dt
  rcases hd with rfl | ⟨dd, fs, rfl, hx⟩
  · exact ⟨_, none, ⟨g, rfl, rfl, trivial⟩, fun _ => rfl⟩
  · obtain ⟨mA, hns, hr⟩ := (show ObjOk X.prog X.w H s.heap dd (.xd fs) from I.hok dd _ hx)
    obtain ⟨od, ho, hl⟩ := lookIn_ns hns
    exact ⟨_, some od, ⟨g, rfl, rfl, ho⟩, fun z => by cases z⟩
theorem call_isiG : CallR X (.builtin "isinstance") (rIsiG X.K) := by
  intro pins s σ H xs us Q I r h
  rcases h with h | ⟨a, D, d, cl, u, b, rfl, k, ha, hd, T, e, q⟩
  · exact call_isi pins s σ H xs us Q I r h
  · obtain ⟨u1, u2, rfl, r1, r2⟩ := vals2 r
    cases (show u1 = Value.ref a from r1)
    have e2 := k.eq r2
    subst e2
    obtain ⟨oe, od, J, _⟩ := inst_xO (K := X.K) I ha hd
    have hcl : (PySem.W.clsIn X.K D).isSome = true := by
      obtain ⟨cd, hc, _⟩ := PySem.W.any_some T.hd
      rw [hc]; rfl
    exact PySem.W.kia_one (PySem.W.kitx_exc hcl T.hg T.hk T.hs T.ha T.hn T.ht T.hm) I.kIn J e (fun z => nomatch z) fun tk => ⟨.bl b, H, I.kept (t' := tk) fun _ _ z => z, rfl, q⟩
/-- the caught exception as it lies in the heap -/
theorem excN_ok {H : Hp} {L : Addr → Prop} {v : V} {o : O} {C : List Addr} {c : Nat} (r : Ow G H L v o C) (h : excN o = some c) : ∃ a d, v = .ref a ∧ H a = some (xO (.ref (G.pl c)) d a) ∧ (d = none ∨ ∃ dd fs, d = some dd ∧ H dd = some (.xd fs)) := by
  cases r with
  | ls _ _ => cases h
  | ob _ _ _ => cases h
  | im r =>
    cases r with
    | exc0 h1 _ => cases h; exact ⟨_, none, rfl, h1, .inl rfl⟩
    | exc h1 _ h2 _ _ _ => cases h; exact ⟨_, _, rfl, h1, .inr ⟨_, _, rfl, h2⟩⟩
    | _ => cases h
/-- isinstance(o, C): ok own classes, okx exception classes that may come; up: those that are C or below it -/
def oIsG (ok okx : List Nat) (c : Nat) (up : List Nat) : List O → Option O
  | [o, .im (.cls c')] => if c' = c then match excN o with
      | some k => if k ∈ okx then some (.im (.bl (decide (k ∈ up)))) else none
      | none => match tyO o with
        | some t => if t ∈ kinds then some (.im (.bl false)) else none
        | none => match kls o with
          | some k => if k ∈ ok then some (.im (.bl (decide (k ∈ up)))) else none
          | none => none
    else none
  | _ => none
theorem ow_cls {H : Hp} {L : Addr → Prop} {v : V} {c : Nat} {C : List Addr} (r : Ow G H L v (.im (.cls c)) C) : v = .ref (G.pl c) := by
  cases r with
  | im r => cases r; rfl
/-- the facts of a class for isinstance(.., C) -/
structure IsX (K : PySem.W.Frag) (pl : Nat → Addr) (ok okx : List Nat) (c : Nat) (up : List Nat) : Prop where
  own : ∀ k ∈ ok, Isi K (pl k)
  exc : ∀ k ∈ okx, ExcC K (pl k)
  cls : ∃ cd, PySem.W.clsIn K (pl c) = some cd
  ty : PySem.W.typeIn K (.ref (pl c)) = some (.type "type")
  sub : ∀ t ∈ kinds, PySem.W.subIn K (.type t) (.ref (pl c)) = some false
  kown : ∀ k ∈ ok, PySem.W.kitOne K (.ref (pl k)) (.ref (pl c)) = some (decide (k ∈ up))
  kexc : ∀ k ∈ okx, PySem.W.kitOne K (.ref (pl k)) (.ref (pl c)) = some (decide (k ∈ up))
theorem pr_isG {ok okx : List Nat} {c : Nat} {up : List Nat} (T : IsX G.K G.pl ok okx c up) : Prim G (rIsiG G.K) (oIsG ok okx c up) :=
  prim_flat fun L B H vs os o Q ow ho => by
    unfold oIsG at ho
    split at ho
    · rename_i o1 c'
      obtain ⟨v, v', C1, C2, rfl, r1, r2⟩ := ow2 ow
      obtain rfl := ow_cls r2
      split at ho
      · rename_i hc
        subst hc
        split at ho
        · rename_i k hk
          split at ho
          · rename_i hm
            cases ho
            obtain ⟨a, d, rfl, h1, h2⟩ := excN_ok r1 hk
            exact ⟨_, _, rfl, fun _ _ => .bl _, fun q => .inr ⟨a, _, d, _, _, _, rfl, .own _, h1, h2, T.exc k hm, T.kexc k hm, q⟩⟩
          · cases ho
        · split at ho
          · rename_i t ht
            split at ho
            · rename_i hm
              cases ho
              obtain ⟨cd, hcd⟩ := T.cls
              exact ⟨_, _, rfl, fun _ _ => .bl _, fun q => .inl ⟨_, _, _, _, _, rfl, .own _, tyO_ok r1 ht, kit1 hcd T.ty (T.sub t hm), q⟩⟩
            · cases ho
          · split at ho
            · rename_i k hk
              split at ho
              · rename_i hm
                cases ho
                obtain ⟨a, dx, fs, rfl, h1⟩ := kls_ok r1 hk
                exact ⟨_, _, rfl, fun _ _ => .bl _, fun q => .inl ⟨_, _, _, _, _, rfl, .own _, (T.own k hm).ty h1, T.kown k hm, q⟩⟩
              · cases ho
            · cases ho
      · cases ho
    · cases ho
theorem x_isG (ok okx : List Nat) {c : Nat} {up : List Nat} {g : Env → Res (List AO)} {ex : Expr} {es : List Expr} {p pos : Pos} (T : IsX G.K G.pl ok okx c up) (hg : Gl X "isinstance") (hm : X.mg "isinstance" = none) (ha : PA X (ex :: es) (tL G W g))
    (he : starEach (ex :: es) X.env = (false, eval ex X.env) :: starEach es X.env := by rfl) (hpl : (backTo pos (starEach es X.env)).any (·.1) = false := by rfl) (hK : X.K = G.K := by rfl) :
    PE X (.Call (.Name "isinstance" p) (ex :: es) [] pos) (tX G W (fP (oIsG ok okx c up) g)) := px_bltf (pr_isG T) (hK ▸ call_isiG) hg hm (by decide +kernel) ha (by decide) (by decide) he hpl

/-! ### e.f of an exception -/
def oXf (ok : List Nat) (f : Str) : O → Option D
  | .im (.exc c fs) => if c ∈ ok then fs.lookup f else none
  | _ => none
def fXf (ok : List Nat) (f : Str) (g : Env → Res AO) : Env → Res AO := fun e => (g e).bind fun a e1 => match (a.get e1).bind (oXf ok f) with
  | some d => .ok (.v (.im d)) e1
  | none => .no
theorem zipGet {H : Hp} {L : Addr → Prop} {f : Str} {d : D} : ∀ {ns : List Str} {vs : List V} {ds : List D}, ImA G H L vs ds → (ns.zip ds).lookup f = some d → ∃ v, (ns.zip vs).lookup f = some v ∧ Im G H L v d
  | [], _, _, _, h => by simp at h
  | n :: ns, [], [], .nil, h => by simp at h
  | n :: ns, v :: vs, d' :: ds, .cons r rs, h => by
    simp only [List.zip_cons_cons, List.lookup_cons] at h ⊢
    split at h
    · rename_i hn
      cases h
      exact ⟨v, by simp [hn], r⟩
    · rename_i hn
      obtain ⟨w, h1, h2⟩ := zipGet rs h
      exact ⟨w, by simp [hn, h1], h2⟩
/-- the reading: x.f of a held exception -/
def tXg (K : PySem.W.Frag) (f : Str) (te : TE) : TE := fun σ H Q => te σ H fun x H1 => ∃ (a C dd : Addr) (fs : List (Str × V)) (v : V), x = .ref a ∧ H1 a = some (xO (.ref C) (some dd) a) ∧ XfC K C ∧ PySem.W.findIn K (.ref C) f = some none ∧ H1 dd = some (.xd fs) ∧ fs.lookup f = some v ∧ Q v H1
theorem pe_xg {e : Expr} {te : TE} {pos : Pos} {f : Str} (he : PE X e te) (hb : attributeBase e f X.env (eval e X.env) = eval e X.env) : PE X (.Attribute e f pos) (tXg X.K f te) := by
  constructor
  intro pins s σ H Q I h
  refine attr_of hb (thn (he.run pins s σ H _ I h) ?_)
  rintro u s1 ⟨x, H1, I1, rx, a, C, dd, fs, v, rfl, ha, T, hno, hx, l, q⟩
  cases rx
  obtain ⟨oe, vs, g, z, dt⟩ := xO_at I1.hok ha
  obtain ⟨mA, hns, hr⟩ := (show ObjOk X.prog X.w H1 s1.heap dd (.xd fs) from I1.hok dd _ hx)
  obtain ⟨od, ho, hl⟩ := lookIn_ns hns
  obtain ⟨w, hw, rw'⟩ := RelO.some_of (v := v) (o := mA f) (l ▸ hr f)
  have J : PySem.W.InstAt s1.heap a oe C (some od) := ⟨g, z.1, by unfold PySem.W.notCls; rw [dt] <;> rfl, by rw [z.2]; exact ho⟩
  exact HandSPX.exc_get I1.kIn J T.ga T.gg T.exC (PySem.W.findObj_own T.hdC hno rfl (by rw [hl, hw])) (handed_of rw') ⟨v, H1, I1.tok _, rw', q⟩
theorem px_xf (ok : List Nat) {o : Expr} {f : Str} {g : Env → Res AO} {pos : Pos} (T : ∀ c ∈ ok, XfC X.K (G.pl c)) (N : ∀ c ∈ ok, PySem.W.findIn X.K (.ref (G.pl c)) f = some none) (ha : PE X o (tX G W g)) (hb : attributeBase o f X.env (eval o X.env) = eval o X.env := by rfl) :
    PE X (.Attribute o f pos) (tX G W (fXf ok f g)) := by
  refine peW (pe_xg ha hb) fun s H Q ⟨R, e, A, S, k⟩ => ⟨R, e, A, S, ?_⟩
  unfold fXf at k
  cases hg : g e with
  | no => rw [hg] at k; cases k
  | er x e' => rw [hg] at k; exact k
  | ok a e1 =>
    rw [hg] at k
    intro v H1 A1 S1 ft F1
    dsimp only [Res.bind] at k
    cases ho : a.get e1 with
    | none => rw [ho] at k; cases k
    | some o =>
      rw [ho] at k
      dsimp only [Option.bind] at k
      cases hx : oXf ok f o with
      | none => rw [hx] at k; cases k
      | some d =>
        rw [hx] at k
        obtain ⟨C0, ow⟩ := get_ow S1.sl ft ho
        unfold oXf at hx
        split at hx
        · rename_i c fs
          split at hx
          · rename_i hc
            cases ow with
            | im r =>
              generalize hxx : D.exc c fs = xx at r
              cases r with
              | exc0 _ _ => cases hxx; simp at hx
              | exc h1 n1 h2 n2 l r =>
                cases hxx
                obtain ⟨w, l1, iw⟩ := zipGet r hx
                obtain ⟨A2, S2, m2⟩ := S1.tail
                exact ⟨_, _, _, _, w, rfl, h1, T _ hc, N _ hc, h2, l1, k w H1 A2 ⟨.so (A := []) (.im (iw.go (Go.less fun a z => z.imp (m2 a) id))) S2.sl, S2.nd, S2.dj, S2.ft⟩ trivial (F1.sub m2)⟩
              | _ => cases hxx
          · cases hx
        · cases hx
end
end PV

set_option Elab.async false
set_option linter.all false
set_option maxRecDepth 100000
set_option maxHeartbeats 4000000
/-! PWc: == and != where own objects stand among the values; <, <=, >, >= of own objects. -/
namespace PV
open PySem PySem.Spec PyProof.Rows PySem.SeqAt L2
open AutoSeq1 (wpAny_loadPart')

/-! ### the built-in types decline -/
section
variable {prog : Program} {w : World} {A : Around} {E : Value → Shared → Prop} {s : Shared} {K : PySem.W.Frag} {b C : Addr} {ob : Obj} {od : Option Obj}
theorem dec_int {i : Int} {t : Tok} {dx : Addr} (hb : s.heap.get? b = some (PySem.W.instObj C dx)) : wpAny (model prog w) A (tryCompare (.int i t) "__eq__" (.ref b)) (fun r s' => r = none ∧ s' = s) E s := by
  refine wpAny_tryCompare_declines (T := "int") (typeIs_int s i t) F.slot_int_eq (GQ.call_here F.slot_int_eq (typeIs_int s i t) F.entry_int_eq (F.args_int_eq_2 _ _) ?_)
  obtain ⟨hp, g, d, tk, os⟩ := s
  have h1 : hp.get? b = some (PySem.W.instObj C dx) := hb
  wp_walk using wpAny_loadPart' h1
  exact ⟨rfl, rfl, rfl⟩
theorem dec_bool {k : Bool} {dx : Addr} (hb : s.heap.get? b = some (PySem.W.instObj C dx)) : wpAny (model prog w) A (tryCompare (.bool k) "__eq__" (.ref b)) (fun r s' => r = none ∧ s' = s) E s := by
  refine wpAny_tryCompare_declines (T := "bool") rfl F.slot_bool_eq (GQ.call_here F.slot_bool_eq rfl F.entry_int_eq (F.args_int_eq_2 _ _) ?_)
  obtain ⟨hp, g, d, tk, os⟩ := s
  have h1 : hp.get? b = some (PySem.W.instObj C dx) := hb
  wp_walk using wpAny_loadPart' h1
  exact ⟨rfl, rfl, rfl⟩
theorem dec_str {x : Str} {t : Tok} {dx : Addr} (hb : s.heap.get? b = some (PySem.W.instObj C dx)) : wpAny (model prog w) A (tryCompare (.str x t) "__eq__" (.ref b)) (fun r s' => r = none ∧ s' = s) E s := by
  refine wpAny_tryCompare_declines (T := "str") (typeIs_str s x t) F.slot_str_eq (GQ.call_here F.slot_str_eq (typeIs_str s x t) F.entry_str_eq (F.args_str_eq_2 _ _) ?_)
  obtain ⟨hp, g, d, tk, os⟩ := s
  have h1 : hp.get? b = some (PySem.W.instObj C dx) := hb
  wp_walk using wpAny_loadPart' h1
  exact ⟨rfl, rfl, rfl⟩
theorem dec_none : wpAny (model prog w) A (tryCompare .none "__eq__" (.ref b)) (fun r s' => r = none ∧ s' = s) E s :=
  wpAny_tryCompare_declines (show s.TypeIs .none "NoneType" from rfl) F.slot_NoneType_eq (GQ.call_here F.slot_NoneType_eq rfl F.entry_NoneType_eq (F.args_NoneType_eq_2 _ _) (by
    obtain ⟨hp, g, d, tk, os⟩ := s
    wp_walk
    exact ⟨rfl, rfl, rfl⟩))
theorem dec_list {a : Addr} {o : Obj} (ho : s.heap.get? a = some o) (hc : o.cls = .type "list") (X : K.In s.heap) (I : PySem.W.InstAt s.heap b ob C od) (hs : PySem.W.subIn K (.ref C) (.type "list") = some false) : wpAny (model prog w) A (tryCompare (.ref a) "__eq__" (.ref b)) (fun r s' => r = none ∧ s' = s) E s := by
  refine wpAny_tryCompare_declines (T := "list") ⟨_, ho, hc⟩ F.slot_list_eq (GQ.call_here F.slot_list_eq ⟨_, ho, hc⟩ F.entry_list_eq (F.args_list_eq_2 _ _) ?_)
  have sub : PySem.W.Looks (model prog w) s.heap (isInstance (.ref b) (.type "list")) false := I.type.andThen (PySem.W.looks_subIn X hs)
  refine wpAny_bind (wpAny_of_eq (a := ((Value.ref a : Value), [Value.ref b])) (by first | rfl | (simp only [slotArgs]; rfl)) ?_)
  refine wpAny_bind (sub.here ?_)
  wp_walk
  exact ⟨rfl, rfl, rfl⟩
theorem dec_tup {a : Addr} {o : Obj} (ho : s.heap.get? a = some o) (hc : o.cls = .type "tuple") (X : K.In s.heap) (I : PySem.W.InstAt s.heap b ob C od) (hs : PySem.W.subIn K (.ref C) (.type "tuple") = some false) : wpAny (model prog w) A (tryCompare (.ref a) "__eq__" (.ref b)) (fun r s' => r = none ∧ s' = s) E s := by
  refine wpAny_tryCompare_declines (T := "tuple") ⟨_, ho, hc⟩ F.slot_tuple_eq (GQ.call_here F.slot_tuple_eq ⟨_, ho, hc⟩ F.entry_tuple_eq (F.args_tuple_eq_2 _ _) ?_)
  have sub : PySem.W.Looks (model prog w) s.heap (isInstance (.ref b) (.type "tuple")) false := I.type.andThen (PySem.W.looks_subIn X hs)
  refine wpAny_bind (wpAny_of_eq (a := ((Value.ref a : Value), [Value.ref b])) (by first | rfl | (simp only [slotArgs]; rfl)) ?_)
  refine wpAny_bind (sub.here ?_)
  wp_walk
  exact ⟨rfl, rfl, rfl⟩
theorem dec_dict {a : Addr} {o : Obj} (ho : s.heap.get? a = some o) (hc : o.cls = .type "dict") (X : K.In s.heap) (I : PySem.W.InstAt s.heap b ob C od) (hs : PySem.W.subIn K (.ref C) (.type "dict") = some false) : wpAny (model prog w) A (tryCompare (.ref a) "__eq__" (.ref b)) (fun r s' => r = none ∧ s' = s) E s := by
  refine wpAny_tryCompare_declines (T := "dict") ⟨_, ho, hc⟩ F.slot_dict_eq (GQ.call_here F.slot_dict_eq ⟨_, ho, hc⟩ F.entry_dict_eq (F.args_dict_eq_2 _ _) ?_)
  have sub : PySem.W.Looks (model prog w) s.heap (isInstance (.ref b) (.type "dict")) false := I.type.andThen (PySem.W.looks_subIn X hs)
  have LT : PySem.W.Looks (model prog w) s.heap (typeOf (.ref a)) (.type "dict") := fun A Q E s k q => wpAny_typeOf_ref (k _ _ ho) (by rw [hc]; exact q)
  obtain ⟨hp, g, d, tk, os⟩ := s
  have ho' : hp.get? a = some o := ho
  have sub' : PySem.W.Looks (model prog w) hp (isInstance (.ref b) (.type "dict")) false := sub
  wp_walk using wpAny_loadPart' ho', sub'.here
  exact ⟨rfl, rfl, rfl⟩

/-- u == o, o an instance with its own __eq__, where u declines -/
theorem rc_right {u : Value} {T : String} {g : Addr} {Q : Value → Shared → Prop} (hu : A.units < cLine) (X : K.In s.heap) (I : PySem.W.InstAt s.heap b ob C od) (hT : s.TypeIs u T) (hs : PySem.W.subIn K (.ref C) (.type T) = some false)
    (dec : wpAny (model prog w) A (tryCompare u "__eq__" (.ref b)) (fun r s' => r = none ∧ s' = s) E s) (he : PySem.W.findIn K (.ref C) "__eq__" = some (some (.ref g))) (hf : PySem.W.isFn K (.ref g) = true)
    (h : wpAny (model prog w) A (call (.ref g) [.ref b, u]) (PySem.W.CmpBack Q) E s) : wpAny (model prog w) A (richCompare .Eq u (.ref b)) Q E s := by
  have own : wpAny (model prog w) A (tryCompare (.ref b) "__eq__" u) (fun r s' => ∃ v, r = some v ∧ Q v s') E s := by
    unfold tryCompare
    refine wpAny_bind (PySem.W.ifBound_K X I he hf (wpAny_mono h (fun v s' z => ?_) fun _ _ e => e))
    cases v <;> first | exact z.elim | exact wpAny_pure ⟨_, rfl, z⟩
  simp only [richCompare, cmpInfo_Eq, hT.oneThing_none]
  refine wpAny_holding (wpAny_bind (wpAny_cRoomFor hu (wpAny_bind (wpAny_typeOf hT (wpAny_bind (I.type.here ?_))))))
  have ne : (Value.type T != Value.ref C) = true := by first | rfl | simp
  simp only [ne, if_true]
  refine wpAny_bind ((PySem.W.looks_subIn X hs).here ?_)
  simp only [Bool.false_eq_true, if_false, Bool.not_false, if_true]
  refine wpAny_bind (m := tryCompare u _ (.ref b)) (wpAny_mono dec (fun r s1 z => ?_) fun _ _ e => e)
  obtain ⟨z1, z2⟩ := z
  subst z1
  subst z2
  refine wpAny_bind (m := tryCompare (.ref b) _ u) (wpAny_mono own (fun r s2 z => ?_) fun _ _ e => e)
  obtain ⟨v, rfl, q⟩ := z
  exact wpAny_pure q
/-- o != v, o an instance with its own __eq__ and no own __ne__ -/
theorem rc_ne {x g : Addr} {v tv : Value} {Q : Value → Shared → Prop} (hu : A.units + 1 < cLine) (X : K.In s.heap) (I : PySem.W.InstAt s.heap x ob C od) (LT : PySem.W.Looks (model prog w) s.heap (typeOf v) tv) (hn : PySem.W.notFirst K C tv = true)
    (hs : PySem.W.findIn K (.ref C) "__ne__" = some (some (.builtin "object.__ne__"))) (hm : PySem.W.mroIn K C (.type "object") = some true) (he : PySem.W.findIn K (.ref C) "__eq__" = some (some (.ref g))) (hf : PySem.W.isFn K (.ref g) = true)
    (h : wpAny (model prog w) A.in1 (call (.ref g) [.ref x, v]) (fun r s' => ∃ k, r = .bool k ∧ Q (.bool (!k)) s') E s) : wpAny (model prog w) A (richCompare .NotEq (.ref x) v) Q E s := by
  have body : wpAny (model prog w) A.in1 (Builtin.«object.__ne__» ⟨[.ref x, v], []⟩) (GQ.FinOf prog w A (wants (fun r s' => ∃ k, r = .bool k ∧ Q (.bool k) s') E)) (fun e s' => wants (fun r s' => ∃ k, r = .bool k ∧ Q (.bool k) s') E (.error e) s') s := by
    unfold Builtin.«object.__ne__»
    refine wpAny_bind (wpAny_of_eq (a := ((Value.ref x : Value), [v])) (by first | rfl | (simp only [slotArgs]; rfl)) ?_)
    refine wpAny_bind (wpAny_cRoomFor (by exact hu) ?_)
    refine wpAny_bind (m := callSpecialIfBound? (.ref x) (Str.ofString "__eq__") [v]) (PySem.W.ifBound_K X I he hf (wpAny_mono h (fun r s' z => ?_) fun _ _ e => e))
    obtain ⟨k, rfl, q⟩ := z
    repeat (first | exact ⟨_, rfl, q⟩ | (refine wpAny_bind (m := truthy (.bool _)) (wpAny_truthy_bool ?_)) | wp_step)
  have call1 : wpAny (model prog w) A (call (.builtin "object.__ne__") [.ref x, v]) (fun r s' => ∃ k, r = .bool k ∧ Q (.bool k) s') E s :=
    wpAny_call (codeAny_call_builtin F.cmp_object.ne.plain F.cmpEntry_ne (PySem.W.check_slot F.cmpKind_ne F.cmpSplit_ne (I.type.andThen (PySem.W.looks_mroIn X hm)) (F.cmpArgs_ne _ _) body))
  have one : wpAny (model prog w) A (tryCompare (.ref x) "__ne__" v) (fun r s' => ∃ z, r = some z ∧ Q z s') E s := by
    unfold tryCompare
    refine wpAny_bind ?_
    simp only [callSpecialIfBound?, bindSpecialIfBound?]
    refine wpAny_holding (wpAny_bind (wpAny_bind (wpAny_bind (I.type.here ((PySem.W.looks_findIn X hs).here ?_)))))
    refine wpAny_bind (wpAny_askSetting (wpAny_ite ?_))
    have fin : wpAny (model prog w) A (call (.builtin "object.__ne__") ([.ref x] ++ [v]) >>= fun v => pure (some v)) (fun a s' => wpAny (model prog w) A (match a with | some .notImplemented | none => pure none | some v => pure (some v)) (fun r s' => ∃ z, r = some z ∧ Q z s') E s') E s :=
      wpAny_bind (wpAny_mono call1 (fun z s' ⟨k, e, q⟩ => by subst e; exact wpAny_pure (wpAny_pure ⟨_, rfl, q⟩)) fun _ _ e => e)
    split
    · exact wpAny_bind (wpAny_of_eq (F.cmp_object.ne.bind _) (wpAny_pure (by exact fin)))
    · exact wpAny_tryCatch (wpAny_bind (wpAny_of_eq (F.cmp_object.ne.bind _) (wpAny_pure (by exact fin))))
  unfold richCompare
  simp only [oneThing_ref]
  refine wpAny_holding (wpAny_bind (wpAny_cRoomFor (by omega) (wpAny_bind (I.type.here (wpAny_bind (LT.here ?_))))))
  have last : wpAny (model prog w) A (tryCompare (.ref x) (cmpInfo .NotEq).2.1 v) (fun r s' => ∃ z, r = some z ∧ Q z s') E s := one
  split
  · rename_i q
    have e : PySem.W.subIn K tv (.ref C) = some false := by
      rcases Bool.or_eq_true_iff.mp hn with e | e
      · rw [beq_iff_eq.mp e] at q; simp at q
      · exact beq_iff_eq.mp e
    refine wpAny_bind ((PySem.W.looks_subIn X e).here ?_)
    simp only [Bool.false_eq_true, if_false]
    refine wpAny_bind (wpAny_mono last (fun r s' z => ?_) fun _ _ e => e)
    obtain ⟨z, rfl, q⟩ := z
    exact wpAny_pure q
  · refine wpAny_bind (wpAny_pure ?_)
    simp only [Bool.false_eq_true, if_false]
    refine wpAny_bind (wpAny_mono last (fun r s' z => ?_) fun _ _ e => e)
    obtain ⟨z, rfl, q⟩ := z
    exact wpAny_pure q
end
end PV

set_option Elab.async false
set_option linter.all false
set_option maxRecDepth 100000
set_option maxHeartbeats 4000000
/-! PWd: == and != of any values, <, <=, >, >= of ints and of own objects, as functions of the slots. -/
namespace PV
open PySem L2

section
variable (X : Cx)
/-- an own comparison: the def at g for the name m of the class at C, and what it promises -/
def OwnM (C : Addr) (m : Str) (vs : List V) (H : Hp) (Q : VK) : Prop := ∃ (g : Addr) (k : Nat) (fd : FuncData) (ps : List Str) (sp : Sp), PySem.W.findIn X.K (.ref C) m = some (some (.ref g)) ∧ PySem.W.isFn X.K (.ref g) = true ∧
  FnG X.prog X.w X.K X.mg X.base k g fd ps sp ∧ RmG (k + 1) X.A ∧ Binds X.K fd ps [] ∧ sp vs H Q E0
/-- o == y and o != y, o an own instance -/
def rEqL (neg : Bool) : R2 := fun x y H Q => ∃ (a dx C : Addr) (fs : List (Str × V)) (t : Value), x = .ref a ∧ H a = some (.ins C dx fs) ∧ TyX X.K H y t ∧ PySem.W.notFirst X.K C t = true ∧
  (neg = true → PySem.W.findIn X.K (.ref C) "__ne__" = some (some (.builtin "object.__ne__")) ∧ PySem.W.mroIn X.K C (.type "object") = some true) ∧ OwnM X C "__eq__" [x, y] H fun z H' => ∃ b, z = .bl b ∧ Q (.bl (b != neg)) H'
/-- y == o, y data -/
def rEqR : R2 := fun x y H Q => ∃ (a dx C : Addr) (fs : List (Str × V)) (T : String), y = .ref a ∧ H a = some (.ins C dx fs) ∧ TyX X.K H x (.type T) ∧ T ∈ kinds ∧ PySem.W.subIn X.K (.ref C) (.type T) = some false ∧
  OwnM X C "__eq__" [y, x] H fun z H' => ∃ b, z = .bl b ∧ Q (.bl b) H'
/-- o < y and so on -/
def rOrd (m : Str) : R2 := fun x y H Q => ∃ (a dx C : Addr) (fs : List (Str × V)) (t : Value), x = .ref a ∧ H a = some (.ins C dx fs) ∧ TyX X.K H y t ∧ PySem.W.notFirst X.K C t = true ∧ OwnM X C m [x, y] H fun z H' => ∃ b, z = .bl b ∧ Q (.bl b) H'
end
section
variable {X : Cx} {pins : List (Addr × Obj)} {σ : L2.St} {H : Hp} {s : Shared}
theorem no_take {W : WX} (h : ∀ c d σ H, ¬ W c d σ H) : Takes X W := fun u s' ⟨_, _, _, _, _, _, _, _, _, _, _, _, _, _, _, _, w⟩ => (h _ _ _ _ w).elim
/-- the def runs, from inside a built-in one -/
theorem run_own {A : Around} {m : Str} {C : Addr} {vs : List V} {us : List Value} {Q : VK} (I : Inv X pins σ H s) (r : Vals vs us) (o : OwnM X C m vs H Q) (hA : A = X.A ∨ A = X.A.in1) :
    ∃ g, PySem.W.findIn X.K (.ref C) m = some (some (.ref g)) ∧ PySem.W.isFn X.K (.ref g) = true ∧ wpAny (model X.prog X.w) A (call (.ref g) us) (EP X pins σ Q) X.xe s := by
  obtain ⟨g, k, fd, ps, sp, h1, h2, F, hr, hb, q⟩ := o
  refine ⟨g, h1, h2, ?_⟩
  have n : (us ++ []).length = ps.length := by rw [List.append_nil, ← r.length]; exact F.len _ _ _ _ q
  have hrA : RmG k A ∧ Env0 X.prog X.w X.K X.mg X.base A X.stack s H := by
    rcases hA with e | e
    · subst e; exact ⟨hr.mono (Nat.le_succ _), I.env0⟩
    · subst e; exact ⟨hr.in1, I.env0.in1⟩
  have b := hb s us I.kIn n
  rw [List.append_nil] at b
  refine wpAny_call (codeAny_mono (F.run A X.stack s H ⟨us, []⟩ _ _ Q E0 hrA.1 hrA.2 b r q) ?_)
  intro r' s' z
  cases r' with
  | error y =>
    obtain ⟨_, _, _, _, _, _, _, _, _, _, _, _, no⟩ := z
    exact no.elim
  | ok fl =>
    cases fl
    case ret u => exact I.after z
    all_goals exact (show False from z)
/-- a value as an instance -/
theorem inst_of {a C dx : Addr} {fs : List (Str × V)} (I : Inv X pins σ H s) (h : H a = some (.ins C dx fs)) : ∃ od, PySem.W.InstAt s.heap a (PySem.W.instObj C dx) C (some od) := by
  obtain ⟨mA, O, _⟩ := ins_get I.hok h
  obtain ⟨od, J, _⟩ := O.look
  exact ⟨od, J⟩
theorem cmpback {P : Value → Shared → Prop} {b : Bool} {s' : Shared} (h : P (.bool b) s') : PySem.W.CmpBack P (.bool b) s' := h
theorem or_eqL {neg : Bool} (hr : RmG 1 X.A) : OpR X (compareOp (if neg then .NotEq else .Eq)) (rEqL X neg) := by
  intro pins s σ H x y v u Q I rx ry h
  obtain ⟨a, dx, C, fs, t, rfl, ha, ty, nf, hne, o⟩ := h
  cases (show v = Value.ref a from rx)
  obtain ⟨od, J⟩ := inst_of I ha
  obtain ⟨P, Z, p, _⟩ := kit_of I ry ty
  have LT : PySem.W.Looks (model X.prog X.w) s.heap (typeOf u) t := Z.ty _ _ I.kIn p
  have un := hr.r.un
  cases neg with
  | false =>
    obtain ⟨g, h1, h2, run⟩ := run_own (A := X.A) (vs := [.ref a, y]) (us := [.ref a, u]) I (.cons rfl (.cons ry .nil)) o (.inl rfl)
    show wpAny _ _ (richCompare .Eq _ _) _ _ _
    obtain ⟨m, hF⟩ := I.fr
    refine PySem.W.cmp_K (op := .Eq) (tb := t) hr.r.units0 hF I.ok.mod.kin J LT nf h1 h2 (wpAny_mono run (fun z s' ⟨w, H', I', rz, b, e, q⟩ => ?_) fun _ _ e => e)
    subst e
    cases (show z = Value.bool b from rz)
    exact ⟨.bl b, H', I', rfl, by simpa using q⟩
  | true =>
    obtain ⟨n1, n2⟩ := hne rfl
    obtain ⟨g, h1, h2, run⟩ := run_own (A := X.A.in1) (vs := [.ref a, y]) (us := [.ref a, u]) I (.cons rfl (.cons ry .nil)) o (.inr rfl)
    show wpAny _ _ (richCompare .NotEq _ _) _ _ _
    refine rc_ne (by omega) I.kIn J LT nf n1 n2 h1 h2 (wpAny_mono run (fun z s' ⟨w, H', I', rz, b, e, q⟩ => ?_) fun _ _ e => e)
    subst e
    cases (show z = Value.bool b from rz)
    exact ⟨b, rfl, .bl (!b), H', I', rfl, by simpa using q⟩
theorem or_eqR (hr : RmG 1 X.A) : OpR X (compareOp .Eq) (rEqR X) := by
  intro pins s σ H x y v u Q I rx ry h
  obtain ⟨a, dx, C, fs, T, rfl, ha, ty, hT, hs, o⟩ := h
  cases (show u = Value.ref a from ry)
  obtain ⟨od, J⟩ := inst_of I ha
  have hb : s.heap.get? a = some (PySem.W.instObj C dx) := J.at_
  obtain ⟨g, h1, h2, run⟩ := run_own (A := X.A) (vs := [.ref a, x]) (us := [.ref a, v]) I (.cons rfl (.cons rx .nil)) o (.inl rfl)
  show wpAny _ _ (richCompare .Eq _ _) _ _ _
  have fin : wpAny (model X.prog X.w) X.A (call (.ref g) [.ref a, v]) (PySem.W.CmpBack (EP X pins σ Q)) X.xe s := wpAny_mono run (fun z s' ⟨w, H', I', rz, b, e, q⟩ => by
    subst e
    cases (show z = Value.bool b from rz)
    exact ⟨.bl b, H', I', rfl, q⟩) fun _ _ e => e
  have key : ∀ (T : String), s.TypeIs v T → PySem.W.subIn X.K (.ref C) (.type T) = some false → (∀ E, wpAny (model X.prog X.w) X.A (tryCompare v "__eq__" (.ref a)) (fun r s' => r = none ∧ s' = s) E s) → wpAny (model X.prog X.w) X.A (richCompare .Eq v (.ref a)) (EP X pins σ Q) X.xe s :=
    fun T hT hs dec => rc_right hr.r.units0 I.kIn J hT hs (dec _) h1 h2 fin
  have kl : ∀ {c : Addr} {o : Obj}, s.heap.get? c = some o → o.cls = .type "list" → v = .ref c → PySem.W.subIn X.K (.ref C) (.type "list") = some false → wpAny (model X.prog X.w) X.A (richCompare .Eq v (.ref a)) (EP X pins σ Q) X.xe s := fun {c o} ho hc e hs => by
    subst e
    exact key "list" ⟨_, ho, hc⟩ hs fun E => dec_list ho hc I.kIn J hs
  have kt : ∀ {c : Addr} {o : Obj}, s.heap.get? c = some o → o.cls = .type "tuple" → v = .ref c → PySem.W.subIn X.K (.ref C) (.type "tuple") = some false → wpAny (model X.prog X.w) X.A (richCompare .Eq v (.ref a)) (EP X pins σ Q) X.xe s := fun {c o} ho hc e hs => by
    subst e
    exact key "tuple" ⟨_, ho, hc⟩ hs fun E => dec_tup ho hc I.kIn J hs
  have kd : ∀ {c : Addr} {o : Obj}, s.heap.get? c = some o → o.cls = .type "dict" → v = .ref c → PySem.W.subIn X.K (.ref C) (.type "dict") = some false → wpAny (model X.prog X.w) X.A (richCompare .Eq v (.ref a)) (EP X pins σ Q) X.xe s := fun {c o} ho hc e hs => by
    subst e
    exact key "dict" ⟨_, ho, hc⟩ hs fun E => dec_dict ho hc I.kIn J hs
  generalize htt : Value.type T = tt at ty
  cases ty with
  | base b =>
    cases b with
    | non => cases htt; cases (show v = Value.none from rx); exact key "NoneType" rfl hs fun E => dec_none
    | bl k => cases htt; cases (show v = Value.bool k from rx); exact key "bool" rfl hs fun E => dec_bool hb
    | int i => cases htt; obtain ⟨t, q⟩ := (show ∃ t, v = Value.int i t from rx); cases q; exact key "int" (typeIs_int _ _ _) hs fun E => dec_int hb
    | str y => cases htt; obtain ⟨t, q⟩ := (show ∃ t, v = Value.str y t from rx); cases q; exact key "str" (typeIs_str _ _ _) hs fun E => dec_str hb
    | flt y => cases htt; simp at hT
    | @lst c xs ea =>
      cases htt
      cases (show v = Value.ref c from rx)
      obtain ⟨_, _, n, _, h1'⟩ := (show ObjOk X.prog X.w H s.heap c (.lst xs) from I.hok c _ ea)
      exact kl h1' rfl rfl hs
    | @frz c ob xs ea =>
      cases htt
      cases (show v = Value.ref c from rx)
      obtain ⟨_, _, _, n, _, h1'⟩ := (show ObjOk X.prog X.w H s.heap c (.frz ob (.lst xs)) from I.hok c _ ea)
      exact kl h1' rfl rfl hs
    | @tup c xs ea =>
      cases htt
      cases (show v = Value.ref c from rx)
      obtain ⟨_, _, _, o, h1', h2', _⟩ := (show ObjOk X.prog X.w H s.heap c (.tup xs) from I.hok c _ ea)
      exact kt h1' h2' rfl hs
    | @dK c kvs ea =>
      cases htt
      cases (show v = Value.ref c from rx)
      obtain ⟨_, _, vs, _, o, es, ep, h1', h2', _⟩ := (show ObjOk X.prog X.w H s.heap c (.dK kvs) from I.hok c _ ea)
      exact kd h1' h2'.1 rfl hs
    | @dT c kvs ea =>
      cases htt
      cases (show v = Value.ref c from rx)
      obtain ⟨_, _, xs, _, o, es, ep, h1', h2', _⟩ := (show ObjOk X.prog X.w H s.heap c (.dT kvs) from I.hok c _ ea)
      exact kd h1' h2'.1 rfl hs
    | ins _ _ _ _ _ _ => cases htt
  | byt y => cases htt; simp at hT
  | set _ => cases htt; simp at hT
  | @kList c ko e cl => cases htt; cases (show v = Value.ref c from rx); exact kl (I.kIn c ko e) cl rfl hs
  | @kTuple c ko e cl => cases htt; cases (show v = Value.ref c from rx); exact kt (I.kIn c ko e) cl rfl hs
  | @kDict c ko e cl => cases htt; cases (show v = Value.ref c from rx); exact kd (I.kIn c ko e) cl rfl hs
  | @fTuple c ob xs ea =>
    cases htt
    cases (show v = Value.ref c from rx)
    obtain ⟨_, _, _, _, o, h1', h2', _⟩ := (show ObjOk X.prog X.w H s.heap c (.frz ob (.tup xs)) from I.hok c _ ea)
    exact kt h1' h2' rfl hs
  | @fDict c ob kvs ea =>
    cases htt
    cases (show v = Value.ref c from rx)
    obtain ⟨_, _, _, vs, _, o, es, ep, h1', h2', _⟩ := (show ObjOk X.prog X.w H s.heap c (.frz ob (.dK kvs)) from I.hok c _ ea)
    exact kd h1' h2'.1 rfl hs
def isOrd (op : CmpOp) : Bool := match op with
  | .Lt | .LtE | .Gt | .GtE => true
  | _ => false
theorem or_ord {op : CmpOp} (ho : isOrd op = true) (hr : RmG 1 X.A) : OpR X (compareOp op) (rOrd X (cmpInfo op).2.1) := by
  intro pins s σ H x y v u Q I rx ry h
  obtain ⟨a, dx, C, fs, t, rfl, ha, ty, nf, o⟩ := h
  cases (show v = Value.ref a from rx)
  obtain ⟨od, J⟩ := inst_of I ha
  obtain ⟨P, Z, p, _⟩ := kit_of I ry ty
  have LT : PySem.W.Looks (model X.prog X.w) s.heap (typeOf u) t := Z.ty _ _ I.kIn p
  obtain ⟨g, h1, h2, run⟩ := run_own (A := X.A) (vs := [.ref a, y]) (us := [.ref a, u]) I (.cons rfl (.cons ry .nil)) o (.inl rfl)
  have e0 : compareOp op (.ref a) u = richCompare op (.ref a) u := by cases op <;> first | rfl | cases ho
  rw [e0]
  obtain ⟨m, hF⟩ := I.fr
  refine PySem.W.cmp_K (op := op) (tb := t) hr.r.units0 hF I.ok.mod.kin J LT nf h1 h2 (wpAny_mono run (fun z s' ⟨w, H', I', rz, b, e, q⟩ => ?_) fun _ _ e => e)
  subst e
  cases (show z = Value.bool b from rz)
  exact ⟨.bl b, H', I', rfl, q⟩
end

/-! ### as functions of the slots -/
section
variable {X : Cx} {W : WX} {G : Cl} {B : List Nat}
/-- a def asked of read-only things alone -/
theorem run_im {R : Addr → Prop} {s : St} {e : Env} {A : List Addr} {H : Hp} {n : Nat} {F : List O → FRes} {ds : List D} {vs : List V} {o : O} {os' : List O} {Q : VK} {E : XK} (S : SR G R H s e A) (im : ImA G H (fun a => a ∈ A ∨ R a) vs ds) (hn : vs.length = n) (hF : F (ds.map O.im) = .ok o os')
    (k : ∀ v H' A', SR G R H' (some v :: s) (some o :: e) A' → Fr0 H A H' A' → Q v H') : SpF G n F vs H Q E := by
  refine ⟨hn, fun a => R a ∨ a ∈ A, ds.map O.im, [], ⟨map_im (im.go (Go.less fun a h => ?_)), List.nodup_nil, fun a m => (by cases m), fun a h => h.elim (S.ft a) (S.dom a)⟩, ?_⟩
  · rcases h with h | h | h
    · cases h
    · exact .inr h
    · exact .inl h
  rw [hF]
  intro v H' A' S' F'
  obtain ⟨A2, S2, m2⟩ : ∃ A2, SR G (fun a => R a ∨ a ∈ A) H' [some v] [some o] A2 ∧ ∀ a ∈ A2, a ∈ A' := by
    have S3 : SR G (fun a => R a ∨ a ∈ A) H' ([some v] ++ vs.map some) ([some o] ++ os'.map some) A' := S'
    exact SR.init rfl S3
  have S4 : SR G R H' ([some v] ++ s) ([some o] ++ e) (A2 ++ A) ∧ Fr0 H ([] ++ A) H' (A2 ++ A) := SR.unhead (A1 := []) (by simpa using S.sl) S.nd S.dj S2 (fun a m => by cases m) (F'.sub m2)
  exact k v H' _ S4.1 S4.2
/-- what is asked of the class for its comparisons -/
structure CmC (K : PySem.W.Frag) (pl : Nat → Addr) (ok : List Nat) (c : Nat) : Prop where
  nt : ∀ t ∈ kinds, PySem.W.notFirst K (pl c) (.type t) = true
  no : ∀ j ∈ ok, PySem.W.notFirst K (pl c) (.ref (pl j)) = true
  st : ∀ t ∈ kinds, PySem.W.subIn K (.ref (pl c)) (.type t) = some false
  ne : PySem.W.findIn K (.ref (pl c)) "__ne__" = some (some (.builtin "object.__ne__"))
  mr : PySem.W.mroIn K (pl c) (.type "object") = some true
def okY (ok : List Nat) (o : O) : Bool := match tyO o with
  | some t => decide (t ∈ kinds)
  | none => match kls o with
    | some j => decide (j ∈ ok)
    | none => false
theorem okY_ok {ok : List Nat} {c : Nat} {H : Hp} {L : Addr → Prop} {v : V} {o : O} {C : List Addr} (r : Ow G H L v o C) (h : okY ok o = true) (Fi : ∀ j ∈ ok, Isi G.K (G.pl j)) (T : CmC G.K G.pl ok c) : ∃ t, TyX G.K H v t ∧ PySem.W.notFirst G.K (G.pl c) t = true := by
  unfold okY at h
  split at h
  · rename_i t ht
    exact ⟨_, tyO_ok r ht, T.nt t (of_decide_eq_true h)⟩
  · split at h
    · rename_i j hj
      obtain ⟨a, dx, fs, rfl, h1⟩ := kls_ok r hj
      have m := of_decide_eq_true h
      exact ⟨_, (Fi j m).ty h1, T.no j m⟩
    · cases h
abbrev OwnT := List (Nat × (List O → FRes))
def ownAsk (F : List O → FRes) (p q : D) (neg : Bool) (e : Env) : Res AO := match F [.im p, .im q] with
  | .ok (.im (.bl b)) _ => .ok (.v (.im (.bl (b != neg)))) e
  | _ => .no
def fOwn2 (own : OwnT) (ok : List Nat) (rf neg : Bool) (as : List AO) (e1 : Env) : Res AO := match pass [.im, .im] as e1 with
  | some ([.im p, .im q], e2, _) => match kls (.im p) with
    | some c => match own.lookup c with
      | some F => if okY ok (.im q) = true then ownAsk F p q neg e2 else .no
      | none => .no
    | none => match kls (.im q) with
      | some c => match own.lookup c with
        | some F => if rf = true then (match tyD p with
          | some t => if t ∈ kinds then ownAsk F q p false e2 else .no
          | none => .no) else .no
        | none => .no
      | none => .no
  | _ => .no
/-- two things compared: data by fo, else by the own defs -/
def fCmpO (fo : List O → Option O) (own : OwnT) (ok : List Nat) (rf neg : Bool) (f g : Env → Res AO) : Env → Res AO := fun e => (fCons f (fCons g fNil) e).bind fun as e1 => match gets e1 as with
  | some [x, y] => if ((kls x).isNone && (kls y).isNone) = true then (match fo [x, y] with
      | some o => .ok (.v o) e1
      | none => .no)
    else fOwn2 own ok rf neg as e1
  | _ => .no
/-- the relation behind it -/
def rCmpO (X : Cx) (G : Cl) (r : R2) (ok : List Nat) (own : OwnT) (m : Str) (rf neg : Bool) : R2 := fun x y H Q => r x y H Q ∨
  (∃ (a dx : Addr) (fs : List (Str × V)) (c : Nat) (F : List O → FRes) (t : Value), x = .ref a ∧ H a = some (.ins (G.pl c) dx fs) ∧ TyX G.K H y t ∧ PySem.W.notFirst G.K (G.pl c) t = true ∧ (c, F) ∈ own ∧ SpF G 2 F [x, y] H (fun z H' => ∃ b, z = .bl b ∧ Q (.bl (b != neg)) H') E0) ∨
  (rf = true ∧ ∃ (a dx : Addr) (fs : List (Str × V)) (c : Nat) (F : List O → FRes) (T : String), y = .ref a ∧ H a = some (.ins (G.pl c) dx fs) ∧ TyX G.K H x (.type T) ∧ T ∈ kinds ∧ (c, F) ∈ own ∧ SpF G 2 F [y, x] H (fun z H' => ∃ b, z = .bl b ∧ Q (.bl b) H') E0)
theorem mem_of_look {own : OwnT} {c : Nat} {F : List O → FRes} (h : own.lookup c = some F) : (c, F) ∈ own := by
  induction own with
  | nil => simp at h
  | cons p own ih =>
    obtain ⟨k, F'⟩ := p
    simp only [List.lookup_cons] at h
    split at h
    · rename_i hk
      cases h
      have := beq_iff_eq.mp hk
      subst this
      exact List.mem_cons_self
    · exact List.mem_cons_of_mem _ (ih h)
theorem run_cmpO {r : R2} {fo : List O → Option O} {ok : List Nat} {own : OwnT} {m : Str} {rf neg : Bool} {f g : Env → Res AO} {s : St} {H : Hp} {Q : VK} (hp : Prim G (r2L r) fo) (Fi : ∀ j ∈ ok, Isi G.K (G.pl j)) (T : ∀ p ∈ own, CmC G.K G.pl ok p.1) (h : tX G W (fCmpO fo own ok rf neg f g) s H Q) :
    tOp (rCmpO X G r ok own m rf neg) (tX G W f) (tX G W g) s H Q := by
  have key : tL G W (fCons f (fCons g fNil)) s H fun vs H1 => r2L (rCmpO X G r ok own m rf neg) vs H1 Q := by
    obtain ⟨R, e, A, S, k⟩ := h
    refine ⟨R, e, A, S, ?_⟩
    unfold fCmpO at k
    cases hfg : fCons f (fCons g fNil) e with
    | no => rw [hfg] at k; cases k
    | er x e' => rw [hfg] at k; exact k
    | ok as e1 =>
      rw [hfg] at k
      intro vs H1 A1 S1 hl ft F1
      dsimp only [Res.bind] at k
      cases hgs : gets e1 as with
      | none => rw [hgs] at k; cases k
      | some os =>
        rw [hgs] at k
        obtain ⟨B0, ow⟩ := gets_ow (R := R) S1.sl hl ft hgs
        match os, ow, k with
        | [], _, k => cases k
        | [_], _, k => cases k
        | _ :: _ :: _ :: _, _, k => cases k
        | [x, y], ow, k =>
          obtain ⟨v, w, C1, C2, rfl, rx, ry⟩ := ow2 ow
          dsimp only at k
          show rCmpO X G r ok own m rf neg v w H1 Q
          by_cases hd : ((kls x).isNone && (kls y).isNone) = true
          · rw [if_pos hd] at k
            cases ho : fo [x, y] with
            | none => rw [ho] at k; cases k
            | some o =>
              rw [ho] at k
              refine .inl (hp R _ _ A1 B0 H1 [v, w] [x, y] o Q S1 ow ho fun z H2 A2 S2 F2 => ?_)
              have ha2 : as.length = 2 := by simpa using hl.symm
              obtain ⟨A3, S3, m3⟩ := SR.under (xs := [some v, some w]) (cs := as.map AO.cell) (by simp [ha2]) S2
              exact k z H2 A3 S3 trivial ((F1.trans F2).sub m3)
          · rw [if_neg hd] at k
            unfold fOwn2 at k
            cases hps : pass [.im, .im] as e1 with
            | none => rw [hps] at k; cases k
            | some t3 =>
              obtain ⟨os, e2, ws⟩ := t3
              rw [hps] at k
              obtain ⟨A2, S2, m2, l2, l3, l4, w2⟩ := SR.passes [] [] rfl S1 hl ft hps
              have S2 : SR G R H1 ([v, w].map some ++ s) (os.map some ++ e2) A2 := S2
              match os, l2, S2, k with
              | [.im p, .im q], _, S2, k =>
                have S3 : SR G R H1 (some v :: (some w :: s)) (some (.im p) :: (some (.im q) :: e2)) A2 := S2
                obtain ⟨A4, S4, m4⟩ := S3.tail
                obtain ⟨A5, S5, m5⟩ := S4.tail
                have iv : Im G H1 (fun a => a ∈ A5 ∨ R a) v p := by
                  obtain ⟨v', _, _, _, q1, _, q2, _⟩ := SlA.at (i := 0) S3.sl rfl
                  cases q1
                  cases q2 with
                  | im z => exact z.go (Go.less fun a h => h.imp (fun h => m4 a (m5 a h)) id)
                have iw : Im G H1 (fun a => a ∈ A5 ∨ R a) w q := by
                  obtain ⟨v', _, _, _, q1, _, q2, _⟩ := SlA.at (i := 1) S3.sl rfl
                  cases q1
                  cases q2 with
                  | im z => exact z.go (Go.less fun a h => h.imp (fun h => m4 a (m5 a h)) id)
                have F15 : Fr0 H A H1 A5 := F1.sub fun a h => m2 a (m4 a (m5 a h))
                dsimp only at k
                have ask : ∀ {F : List O → FRes} {p1 q1 : D} {u1 u2 : V} {n1 : Bool}, Im G H1 (fun a => a ∈ A5 ∨ R a) u1 p1 → Im G H1 (fun a => a ∈ A5 ∨ R a) u2 q1 → (match ownAsk F p1 q1 n1 e2 with
                    | .ok a e' => ∀ v H' A', SR G R H' (some v :: s) (a.cell :: e') A' → a.fits s v → Fr0 H A H' A' → Q v H'
                    | .er x e' => erE G W R s H A x e'
                    | .no => False) → SpF G 2 F [u1, u2] H1 (fun z H' => ∃ b, z = .bl b ∧ Q (.bl (b != n1)) H') E0 := by
                  intro F p1 q1 u1 u2 n1 i1 i2 kk
                  unfold ownAsk at kk
                  cases hF : F [.im p1, .im q1] with
                  | no => rw [hF] at kk; cases kk
                  | er _ _ => rw [hF] at kk; cases kk
                  | ok o os' =>
                    rw [hF] at kk
                    cases o with
                    | ls _ => cases kk
                    | ob _ _ _ => cases kk
                    | im d =>
                      cases d with
                      | bl b =>
                        dsimp only at kk
                        refine run_im S5 (ds := [p1, q1]) (.cons i1 (.cons i2 .nil)) rfl hF fun z H' A' S' F' => ?_
                        have ez : z = .bl b := by
                          obtain ⟨v', _, _, _, q1, _, q2, _⟩ := SlA.at (i := 0) S'.sl rfl
                          cases q1
                          cases q2 with
                          | im y => cases y; rfl
                        subst ez
                        obtain ⟨A6, S6, m6⟩ := S'.tail
                        exact ⟨b, rfl, kk (.bl (b != n1)) H' A6 ⟨.so (A := []) (.im (.bl _)) S6.sl, S6.nd, S6.dj, S6.ft⟩ trivial ((F15.trans F').sub m6)⟩
                      | _ => cases kk
                cases hkp : kls (.im p) with
                | some c =>
                  rw [hkp] at k
                  dsimp only at k
                  cases hlk : own.lookup c with
                  | none => rw [hlk] at k; cases k
                  | some F =>
                    rw [hlk] at k
                    dsimp only at k
                    by_cases hy : okY ok (.im q) = true
                    · rw [if_pos hy] at k
                      have hm := mem_of_look hlk
                      obtain ⟨t, ty, nf⟩ := okY_ok (.im iw) hy Fi (T _ hm)
                      obtain ⟨a, dx, fs, rfl, h1⟩ := kls_ok (.im iv) hkp
                      exact .inr (.inl ⟨a, dx, fs, c, F, t, rfl, h1, ty, nf, hm, ask iv iw k⟩)
                    · rw [if_neg hy] at k; cases k
                | none =>
                  rw [hkp] at k
                  dsimp only at k
                  cases hkq : kls (.im q) with
                  | none => rw [hkq] at k; cases k
                  | some c =>
                    rw [hkq] at k
                    dsimp only at k
                    cases hlk : own.lookup c with
                    | none => rw [hlk] at k; cases k
                    | some F =>
                      rw [hlk] at k
                      dsimp only at k
                      by_cases hr : rf = true
                      · rw [if_pos hr] at k
                        cases ht : tyD p with
                        | none => rw [ht] at k; cases k
                        | some t =>
                          rw [ht] at k
                          dsimp only at k
                          by_cases hm : t ∈ kinds
                          · rw [if_pos hm] at k
                            obtain ⟨a, dx, fs, rfl, h1⟩ := kls_ok (.im iw) hkq
                            refine .inr (.inr ⟨hr, a, dx, fs, c, F, t, rfl, h1, tyO_ok (.im iv) ht, hm, mem_of_look hlk, ?_⟩)
                            have z := ask iw iv k
                            simpa using z
                          · rw [if_neg hm] at k; cases k
                      · rw [if_neg hr] at k; cases k
              | [], l2, _, _ => simp at l2
              | [_], l2, _, _ => simp at l2
              | _ :: _ :: _ :: _, l2, _, _ => simp at l2
              | [.ls _, _], _, _, k => cases k
              | [.ob _ _ _, _], _, _, k => cases k
              | [.im _, .ls _], _, _, k => cases k
              | [.im _, .ob _ _ _], _, _, k => cases k
  have q := tl_cons key
  obtain ⟨R, e, A, S, k⟩ := q
  refine ⟨R, e, A, S, ?_⟩
  cases hf : f e with
  | no => rw [hf] at k; cases k
  | er x e' => rw [hf] at k; exact k
  | ok a e1 =>
    rw [hf] at k
    intro v H1 A1 S1 ft F1
    have z := tl_cons (k v H1 A1 S1 ft F1)
    obtain ⟨R2, e2, A2, S2, k2⟩ := z
    refine ⟨R2, e2, A2, S2, ?_⟩
    cases hg : g e2 with
    | no => rw [hg] at k2; cases k2
    | er x e' => rw [hg] at k2; exact k2
    | ok b e3 =>
      rw [hg] at k2
      intro w H2 A3 S3 ft3 F3
      exact tl_nil (k2 w H2 A3 S3 ft3 F3)
/-- the own defs for the name m: each class, its def's function -/
def OwnD (P : Program) (w : World) (G : Cl) (mg : Str → Option Value) (base : Heap) (m : Str) (n : Nat) (own : OwnT) : Prop := ∀ p ∈ own, ∃ k, k ≤ n ∧ Mth P w G mg base p.1 m k 1 p.2
theorem OwnD.nil {P : Program} {w : World} {mg : Str → Option Value} {base : Heap} {m : Str} {n : Nat} : OwnD P w G mg base m n [] := fun p h => by cases h
theorem OwnD.cons {P : Program} {w : World} {mg : Str → Option Value} {base : Heap} {m : Str} {n k c : Nat} {F : List O → FRes} {own : OwnT} (d : Mth P w G mg base c m k 1 F) (h : k ≤ n) (r : OwnD P w G mg base m n own) : OwnD P w G mg base m n ((c, F) :: own) := fun p hp => by
  rcases List.mem_cons.mp hp with e | hp
  · subst e; exact ⟨k, h, d⟩
  · exact r p hp
theorem own_m {m : Str} {n : Nat} {own : OwnT} (D : OwnD X.prog X.w G X.mg X.base m n own) (hr : RmG (n + 1) X.A) (hK : X.K = G.K) {c : Nat} {F : List O → FRes} {vs : List V} {H : Hp} {Q : VK} (hm : (c, F) ∈ own) (h : SpF G 2 F vs H Q E0) : OwnM X (G.pl c) m vs H Q := by
  obtain ⟨k, hk, d⟩ := D _ hm
  obtain ⟨g, fd, ps, M, Fn, hb⟩ := d.ex
  refine ⟨g, k, fd, ps, _, ?_, ?_, ?_, hr.mono (by omega), ?_, h⟩
  · rw [hK]; exact M.at_
  · rw [hK]; exact M.fn
  · rw [hK]; exact Fn
  · rw [hK]; exact hb
variable {a b : Expr} {f g : Env → Res AO} {pos : Pos}
theorem or_eqO {n : Nat} {own : OwnT} {ok : List Nat} (D : OwnD X.prog X.w G X.mg X.base "__eq__" n own) (hr : RmG (n + 1) X.A) (T : ∀ p ∈ own, CmC G.K G.pl ok p.1) (hK : X.K = G.K) : OpR X (compareOp .Eq) (rCmpO X G (rEqD G.K) ok own "__eq__" true false) := by
  intro pins s σ H x y v u Q I rx ry h
  rcases h with h | ⟨a, dx, fs, c, F, t, e, h1, ty, nf, hm, sp⟩ | ⟨_, a, dx, fs, c, F, T', e, h1, ty, hT, hm, sp⟩
  · exact (hK ▸ op_eqD (by have := hr.r.un; omega)) pins s σ H x y v u Q I rx ry h
  · refine or_eqL (neg := false) (hr.mono (by omega)) pins s σ H x y v u Q I rx ry ⟨a, dx, _, fs, t, e, h1, hK ▸ ty, hK ▸ nf, (fun z => by cases z), own_m D hr hK hm sp⟩
  · exact or_eqR (hr.mono (by omega)) pins s σ H x y v u Q I rx ry ⟨a, dx, _, fs, T', e, h1, hK ▸ ty, hT, hK ▸ (T _ hm).st T' hT, own_m D hr hK hm sp⟩
theorem or_neO {n : Nat} {own : OwnT} {ok : List Nat} (D : OwnD X.prog X.w G X.mg X.base "__eq__" n own) (hr : RmG (n + 1) X.A) (T : ∀ p ∈ own, CmC G.K G.pl ok p.1) (hK : X.K = G.K) : OpR X (compareOp .NotEq) (rCmpO X G (rNeD G.K) ok own "__eq__" false true) := by
  intro pins s σ H x y v u Q I rx ry h
  rcases h with h | ⟨a, dx, fs, c, F, t, e, h1, ty, nf, hm, sp⟩ | ⟨z, _⟩
  · exact (hK ▸ op_neD (by have := hr.r.un; omega)) pins s σ H x y v u Q I rx ry h
  · exact or_eqL (neg := true) (hr.mono (by omega)) pins s σ H x y v u Q I rx ry ⟨a, dx, _, fs, t, e, h1, hK ▸ ty, hK ▸ nf, fun _ => ⟨hK ▸ (T _ hm).ne, hK ▸ (T _ hm).mr⟩, own_m D hr hK hm sp⟩
  · cases z
theorem or_ordO {op : CmpOp} {r : R2} {n : Nat} {own : OwnT} {ok : List Nat} (ho : isOrd op = true) (hi : OpR X (compareOp op) r) (D : OwnD X.prog X.w G X.mg X.base (cmpInfo op).2.1 n own) (hr : RmG (n + 1) X.A) (T : ∀ p ∈ own, CmC G.K G.pl ok p.1) (hK : X.K = G.K) : OpR X (compareOp op) (rCmpO X G r ok own (cmpInfo op).2.1 false false) := by
  intro pins s σ H x y v u Q I rx ry h
  rcases h with h | ⟨a, dx, fs, c, F, t, e, h1, ty, nf, hm, sp⟩ | ⟨z, _⟩
  · exact hi pins s σ H x y v u Q I rx ry h
  · refine or_ord ho (hr.mono (by omega)) pins s σ H x y v u Q I rx ry ⟨a, dx, _, fs, t, e, h1, hK ▸ ty, hK ▸ nf, own_m D hr hK hm ?_⟩
    simpa using sp
  · cases z
theorem run_tb {f : Env → Res AO} {s : St} {H : Hp} {Q : Bool → Hp → Prop} (h : tT G W (fTb f) s H Q) : tX G W f s H fun x H' => ∃ k, x = .bl k ∧ Q k H' := by
  obtain ⟨R, e, A, S, z⟩ := h
  refine ⟨R, e, A, S, ?_⟩
  unfold fTb at z
  cases hf : f e with
  | no => rw [hf] at z; cases z
  | er x e' => rw [hf] at z; exact z
  | ok a e1 =>
    rw [hf] at z
    dsimp only [Res.bind] at z
    cases hb : boolA a with
    | none => rw [hb] at z; cases z
    | some k =>
      rw [hb] at z
      have ea := boolA_ok hb
      subst ea
      intro v H1 A1 S1 ft F1
      obtain ⟨v', _, _, _, q1, _, q2, _⟩ := SlA.at (i := 0) S1.sl rfl
      cases q1
      cases q2 with
      | im y =>
        cases y
        obtain ⟨A2, S2, m2⟩ := S1.tail
        exact ⟨k, rfl, z H1 A2 S2 (F1.sub m2)⟩
theorem mark_ord {op : CmpOp} (ho : isOrd op = true) (b : Expr) : behindInMarks op b = false := by cases op <;> first | exact nomark _ | cases ho
theorem x_eqO {n : Nat} {own : OwnT} (ok : List Nat) (D : OwnD X.prog X.w G X.mg X.base "__eq__" n own) (hr : RmG (n + 1) X.A) (Fi : ∀ j ∈ ok, Isi G.K (G.pl j)) (T : ∀ p ∈ own, CmC G.K G.pl ok p.1) (ha : PE X a (tX G W f)) (hb : PE X b (tX G W g)) (hK : X.K = G.K := by rfl) :
    PE X (.Compare a [.Eq] [b] pos) (tX G W (fCmpO (eqO false) own ok true false f g)) := peW (pe_cmpR (or_eqO D hr T hK) ha hb (nomark _)) fun s H Q h => run_cmpO (pr_eq) Fi T h
theorem x_neO {n : Nat} {own : OwnT} (ok : List Nat) (D : OwnD X.prog X.w G X.mg X.base "__eq__" n own) (hr : RmG (n + 1) X.A) (Fi : ∀ j ∈ ok, Isi G.K (G.pl j)) (T : ∀ p ∈ own, CmC G.K G.pl ok p.1) (ha : PE X a (tX G W f)) (hb : PE X b (tX G W g)) (hK : X.K = G.K := by rfl) :
    PE X (.Compare a [.NotEq] [b] pos) (tX G W (fCmpO (eqO true) own ok false true f g)) := peW (pe_cmpR (or_neO D hr T hK) ha hb (nomark _)) fun s H Q h => run_cmpO (pr_ne) Fi T h
theorem x_ordO {op : CmpOp} {r : R2} {fo : List O → Option O} {n : Nat} {own : OwnT} (ok : List Nat) (ho : isOrd op = true) (hi : OpR X (compareOp op) r) (hp : Prim G (r2L r) fo) (D : OwnD X.prog X.w G X.mg X.base (cmpInfo op).2.1 n own) (hr : RmG (n + 1) X.A) (Fi : ∀ j ∈ ok, Isi G.K (G.pl j)) (T : ∀ p ∈ own, CmC G.K G.pl ok p.1)
    (ha : PE X a (tX G W f)) (hb : PE X b (tX G W g)) (hK : X.K = G.K := by rfl) : PE X (.Compare a [op] [b] pos) (tX G W (fCmpO fo own ok false false f g)) := peW (pe_cmpR (or_ordO ho hi D hr T hK) ha hb (mark_ord ho b)) fun s H Q h => run_cmpO hp Fi T h
theorem t_eqO {n : Nat} {own : OwnT} (ok : List Nat) (D : OwnD X.prog X.w G X.mg X.base "__eq__" n own) (hr : RmG (n + 1) X.A) (Fi : ∀ j ∈ ok, Isi G.K (G.pl j)) (T : ∀ p ∈ own, CmC G.K G.pl ok p.1) (ha : PE X a (tX G W f)) (hb : PE X b (tX G W g)) (hK : X.K = G.K := by rfl) :
    PT X (.Compare a [.Eq] [b] pos) (tT G W (fTb (fCmpO (eqO false) own ok true false f g))) := ptW (pt_cmpR (or_eqO D hr T hK) ha hb (nomark _)) fun s H Q h => run_cmpO (pr_eq) Fi T (run_tb h)
theorem t_neO {n : Nat} {own : OwnT} (ok : List Nat) (D : OwnD X.prog X.w G X.mg X.base "__eq__" n own) (hr : RmG (n + 1) X.A) (Fi : ∀ j ∈ ok, Isi G.K (G.pl j)) (T : ∀ p ∈ own, CmC G.K G.pl ok p.1) (ha : PE X a (tX G W f)) (hb : PE X b (tX G W g)) (hK : X.K = G.K := by rfl) :
    PT X (.Compare a [.NotEq] [b] pos) (tT G W (fTb (fCmpO (eqO true) own ok false true f g))) := ptW (pt_cmpR (or_neO D hr T hK) ha hb (nomark _)) fun s H Q h => run_cmpO (pr_ne) Fi T (run_tb h)
theorem t_ordO {op : CmpOp} {r : R2} {fo : List O → Option O} {n : Nat} {own : OwnT} (ok : List Nat) (ho : isOrd op = true) (hi : OpR X (compareOp op) r) (hp : Prim G (r2L r) fo) (D : OwnD X.prog X.w G X.mg X.base (cmpInfo op).2.1 n own) (hr : RmG (n + 1) X.A) (Fi : ∀ j ∈ ok, Isi G.K (G.pl j)) (T : ∀ p ∈ own, CmC G.K G.pl ok p.1)
    (ha : PE X a (tX G W f)) (hb : PE X b (tX G W g)) (hK : X.K = G.K := by rfl) : PT X (.Compare a [op] [b] pos) (tT G W (fTb (fCmpO fo own ok false false f g))) := ptW (pt_cmpR (or_ordO ho hi D hr T hK) ha hb (mark_ord ho b)) fun s H Q h => run_cmpO hp Fi T (run_tb h)
theorem x_ltO {n : Nat} {own : OwnT} (ok : List Nat) (D : OwnD X.prog X.w G X.mg X.base "__lt__" n own) (hr : RmG (n + 1) X.A) (Fi : ∀ j ∈ ok, Isi G.K (G.pl j)) (T : ∀ p ∈ own, CmC G.K G.pl ok p.1) (ha : PE X a (tX G W f)) (hb : PE X b (tX G W g)) (hK : X.K = G.K := by rfl) :
    PE X (.Compare a [.Lt] [b] pos) (tX G W (fCmpO oLt own ok false false f g)) := x_ordO ok rfl op_lt (pr_I20 fun _ _ _ _ => .bl _) D hr Fi T ha hb hK
theorem x_leO {n : Nat} {own : OwnT} (ok : List Nat) (D : OwnD X.prog X.w G X.mg X.base "__le__" n own) (hr : RmG (n + 1) X.A) (Fi : ∀ j ∈ ok, Isi G.K (G.pl j)) (T : ∀ p ∈ own, CmC G.K G.pl ok p.1) (ha : PE X a (tX G W f)) (hb : PE X b (tX G W g)) (hK : X.K = G.K := by rfl) :
    PE X (.Compare a [.LtE] [b] pos) (tX G W (fCmpO oLe own ok false false f g)) := x_ordO ok rfl op_le (pr_I20 fun _ _ _ _ => .bl _) D hr Fi T ha hb hK
theorem x_gtO {n : Nat} {own : OwnT} (ok : List Nat) (D : OwnD X.prog X.w G X.mg X.base "__gt__" n own) (hr : RmG (n + 1) X.A) (Fi : ∀ j ∈ ok, Isi G.K (G.pl j)) (T : ∀ p ∈ own, CmC G.K G.pl ok p.1) (ha : PE X a (tX G W f)) (hb : PE X b (tX G W g)) (hK : X.K = G.K := by rfl) :
    PE X (.Compare a [.Gt] [b] pos) (tX G W (fCmpO oGt own ok false false f g)) := x_ordO ok rfl op_gt (pr_I20 fun _ _ _ _ => .bl _) D hr Fi T ha hb hK
theorem x_geO {n : Nat} {own : OwnT} (ok : List Nat) (D : OwnD X.prog X.w G X.mg X.base "__ge__" n own) (hr : RmG (n + 1) X.A) (Fi : ∀ j ∈ ok, Isi G.K (G.pl j)) (T : ∀ p ∈ own, CmC G.K G.pl ok p.1) (ha : PE X a (tX G W f)) (hb : PE X b (tX G W g)) (hK : X.K = G.K := by rfl) :
    PE X (.Compare a [.GtE] [b] pos) (tX G W (fCmpO oGe own ok false false f g)) := x_ordO ok rfl op_ge (pr_I20 fun _ _ _ _ => .bl _) D hr Fi T ha hb hK
theorem t_ltO {n : Nat} {own : OwnT} (ok : List Nat) (D : OwnD X.prog X.w G X.mg X.base "__lt__" n own) (hr : RmG (n + 1) X.A) (Fi : ∀ j ∈ ok, Isi G.K (G.pl j)) (T : ∀ p ∈ own, CmC G.K G.pl ok p.1) (ha : PE X a (tX G W f)) (hb : PE X b (tX G W g)) (hK : X.K = G.K := by rfl) :
    PT X (.Compare a [.Lt] [b] pos) (tT G W (fTb (fCmpO oLt own ok false false f g))) := t_ordO ok rfl op_lt (pr_I20 fun _ _ _ _ => .bl _) D hr Fi T ha hb hK
theorem t_leO {n : Nat} {own : OwnT} (ok : List Nat) (D : OwnD X.prog X.w G X.mg X.base "__le__" n own) (hr : RmG (n + 1) X.A) (Fi : ∀ j ∈ ok, Isi G.K (G.pl j)) (T : ∀ p ∈ own, CmC G.K G.pl ok p.1) (ha : PE X a (tX G W f)) (hb : PE X b (tX G W g)) (hK : X.K = G.K := by rfl) :
    PT X (.Compare a [.LtE] [b] pos) (tT G W (fTb (fCmpO oLe own ok false false f g))) := t_ordO ok rfl op_le (pr_I20 fun _ _ _ _ => .bl _) D hr Fi T ha hb hK
theorem t_gtO {n : Nat} {own : OwnT} (ok : List Nat) (D : OwnD X.prog X.w G X.mg X.base "__gt__" n own) (hr : RmG (n + 1) X.A) (Fi : ∀ j ∈ ok, Isi G.K (G.pl j)) (T : ∀ p ∈ own, CmC G.K G.pl ok p.1) (ha : PE X a (tX G W f)) (hb : PE X b (tX G W g)) (hK : X.K = G.K := by rfl) :
    PT X (.Compare a [.Gt] [b] pos) (tT G W (fTb (fCmpO oGt own ok false false f g))) := t_ordO ok rfl op_gt (pr_I20 fun _ _ _ _ => .bl _) D hr Fi T ha hb hK
theorem t_geO {n : Nat} {own : OwnT} (ok : List Nat) (D : OwnD X.prog X.w G X.mg X.base "__ge__" n own) (hr : RmG (n + 1) X.A) (Fi : ∀ j ∈ ok, Isi G.K (G.pl j)) (T : ∀ p ∈ own, CmC G.K G.pl ok p.1) (ha : PE X a (tX G W f)) (hb : PE X b (tX G W g)) (hK : X.K = G.K := by rfl) :
    PT X (.Compare a [.GtE] [b] pos) (tT G W (fTb (fCmpO oGe own ok false false f g))) := t_ordO ok rfl op_ge (pr_I20 fun _ _ _ _ => .bl _) D hr Fi T ha hb hK
end
end PV

set_option Elab.async false
set_option linter.all false
set_option maxRecDepth 100000
set_option maxHeartbeats 4000000
/-! PWf: defaults; raise C(e); repr; str -/
namespace PV
open PySem L2
open PyProof.Rows (envOfC)

/-! ### raise C(e) -/
/-- self.f = x in the __init__ of an exception's class -/
def spX (C : Addr) (f : Str) : Sp := fun vs H Q _ => ∃ (a : Addr) (v : V), vs = [.ref a, v] ∧ H a = some (exo a C none) ∧ ∀ dx, H dx = none → dx ≠ a → Q .non (upd (upd H dx (exd dx [(f, v)])) a (exo a C (some dx)))
structure XKl (P : Program) (w : World) (G : Cl) (mg : Str → Option Value) (base : Heap) (x : Str) (c : Nat) (f : Str) : Prop where
  T : OexC G.K (G.pl c)
  ex : ∃ (fI : Addr) (fd : FuncData) (ps : List Str), PySem.W.findIn G.K (.ref (G.pl c)) "__init__" = some (some (.ref fI)) ∧ PySem.W.typeIn G.K (.ref fI) = some (.type "function") ∧ FnOk P w G.K mg base (L2.CX P w) 1 fI fd ps (spX (G.pl c) f) ∧ Binds G.K fd ps []
  mg : mg x = some (.ref (G.pl c))
/-- the class's __init__ -/
theorem fn_xinit {P : Program} {w : World} {K : PySem.W.Frag} {mg : Str → Option Value} {base : Heap} {x qual : Str} {pr : Arguments} {body : List Stmt} {sc : Scope} {dvs : List V} {fI C : Addr} {fd : FuncData} {n f : Str} {p1 p2 p3 p4 : Pos} (F : FunD K x qual pr body sc dvs [] fI fd) (S : FnScope ["self", n] ["self", n] sc)
    (hb : body = [.Assign [.Attribute (.Name "self" p1) f p2] (.Name n p3) p4]) (T : OexC K C) (no : PySem.W.findIn K (.ref C) f = some none) (hn : (n == ("__debug__" : Str)) = false := by decide) (hn2 : (n == ("__classdict__" : Str)) = false := by decide) : FnOk P w K mg base (L2.CX P w) 1 fI fd ["self", n] (spX C f) := by
  refine FunD.ok F S (fun vs H Q E h => ?_) fun cdv A o s H vs Q E hr h => ?_
  · obtain ⟨a, v, rfl, _⟩ := h; rfl
  · obtain ⟨a, v, rfl, h1, h2⟩ := h
    subst hb
    have vis : ∀ y ∈ (["self", n] : List Str), Vis sc y := fun y hy => (S.par y hy).elim .inl fun z => .inr (.inl z)
    refine ⟨_, pss_one (ps_ost (pe_var (i := 0) rfl (vis _ (by simp))) (pe_var (i := 1) rfl (vis _ (by simp)) hn hn2)), ?_⟩
    exact ⟨v, rfl, .ref a, rfl, a, C, rfl, T, no, .inl ⟨h1, fun dx n1 n2 => h2 dx n1 n2⟩⟩
section
variable {X : Cx} {W : WX} {G : Cl} {B : List Nat}
def fRaise (c : Nat) (f : Str) (g : Env → Res AO) : Env → SRes := onX g fun a e1 => match pass1 .im a e1 with
  | some (.im d, e2, _) => .er (.exc c [(f, d)]) e2
  | _ => .no
theorem qp_raise {c : Nat} {x f : Str} {ex : Expr} {g : Env → Res AO} {p pos po : Pos} (D : XKl X.prog X.w G X.mg X.base x c f) (hc : X.calm = true) (hr : RmG 2 X.A) (tk : Takes X W) (hg : Gl X x) (ha : PE X ex (tX G W g))
    (hdb : (x == ("__debug__" : Str)) = false := by decide) (he : starEach [ex] X.env = (false, eval ex X.env) :: starEach [] X.env := by rfl) (hpl : (backTo pos (starEach [] X.env)).any (·.1) = false := by rfl) (hK : X.K = G.K := by rfl) :
    PS X (.Raise (some (.Call (.Name x p) [ex] [] pos)) none po) (tS G W B (fRaise c f g)) := by
  obtain ⟨fI, fd, ps, i1, i2, F1, hb⟩ := D.ex
  have T := D.T
  rw [← hK] at T i1 i2 F1 hb
  refine psW (ps_raise hc tk (pmk_oex (dvs := []) T i1 i2 F1 hr.r hb .nil (fun _ _ _ _ _ _ _ z => by
    obtain ⟨_, _, _, _, _, _, _, _, _, _, _, _, no⟩ := z
    exact no.elim) hg D.mg (pl_cons ha pl_nil he) hdb he hpl)) fun D0 s H ⟨R, e, A, S, z⟩ => ⟨R, e, A, S, ?_⟩
  unfold fRaise onX at z
  unfold fCons
  cases hge : g e with
  | no => rw [hge] at z; cases z
  | er y e1 =>
    rw [hge] at z
    exact fun c d H' A' S' r F => z c d s H' A' S' r keepB.refl F
  | ok a e1 =>
    rw [hge] at z
    dsimp only [Res.bind, fNil] at z ⊢
    intro vs H1 A1 S1 hl ft F1'
    cases hp : pass1 .im a e1 with
    | none => rw [hp] at z; cases z
    | some t =>
      obtain ⟨o, e2, wb⟩ := t
      rw [hp] at z
      cases o with
      | ls _ => cases z
      | ob _ _ _ => cases z
      | im d =>
        dsimp only at z
        match vs, hl, ft, S1 with
        | [v], _, ft, S1 =>
          have S1' : SR G R H1 (some v :: s) (a.cell :: e1) A1 := S1
          obtain ⟨A2, S2, m2⟩ := S1'.pass1 (ft 0 a v rfl rfl) hp
          have iv : Im G H1 (fun a => a ∈ A2 ∨ R a) v d := by
            obtain ⟨v', _, _, _, q1, _, q2, _⟩ := SlA.at (i := 0) S2.sl rfl
            cases q1
            cases q2 with
            | im y => exact y
          obtain ⟨A3, S3, m3⟩ := S2.tail
          refine ⟨by simp, fun a na => ⟨a, v, rfl, upd_same, fun dx ndx ne => ⟨rfl, dx, [(f, v)], upd_same, by rw [upd_ne ne, upd_same], ?_, ?_⟩⟩⟩
          · rw [upd_ne ne] at ndx; exact ndx
          · have n1 : H1 dx = none := by rw [upd_ne ne] at ndx; exact ndx
            have eh : upd (del (upd (upd (upd H1 a (exo a (G.pl c) none)) dx (exd dx [(f, v)])) a (exo a (G.pl c) (some dx))) a) dx (.xd [(f, v)]) = upd H1 dx (.xd [(f, v)]) := by
              funext b
              by_cases hb1 : b = dx
              · subst hb1; rw [upd_same, upd_same]
              · rw [upd_ne hb1, upd_ne hb1]
                by_cases hb2 : b = a
                · subst hb2; rw [del_same, na]
                · rw [del_ne hb2, upd_ne hb2, upd_ne hb1, upd_ne hb2]
            rw [eh]
            have S4 := S3.push (u := .xd [(f, v)]) n1
            have nL : ¬ (dx ∈ A3 ∨ R dx) := fun h => by
              rcases h with h | h
              · obtain ⟨u, q⟩ := S3.dom dx h; rw [n1] at q; cases q
              · obtain ⟨u, q⟩ := S3.ft dx h; rw [n1] at q; cases q
            exact z _ (some dx) s _ A3 S4 (.dic (ns := [f]) (vs := [v]) (ds := [d]) upd_same nL rfl (.cons ((iv.go (Go.less fun a h => h.imp (m3 a) id)).go (go_push n1)) .nil)) keepB.refl (((F1'.sub m2).sub m3).trans (Fr.push (q := false) n1))
        | [], hl, _, _ => simp at hl
        | _ :: _ :: _, hl, _, _ => simp at hl
end

/-! ### repr -/
def showOk (p : PyData) : Bool := p.showable && (!p.hasDict && (decide (p.depth < 60) && decide (p.shown.length ≤ sizeLine)))
def oRepr : List O → Option O
  | [o] => match o.d with
    | .dct [] => some (.im (.str "{}"))
    | d => match d.py with
      | some p => if showOk p = true then some (.im (.str p.shown)) else none
      | none => none
  | _ => none
def rRepr (K : PySem.W.Frag) : List V → Hp → VK → Prop := fun xs H Q => ∃ x, xs = [x] ∧ ((∃ p, Dp K H x p ∧ showOk p = true ∧ Q (.str p.shown) H) ∨ ∃ a, x = .ref a ∧ Rd H a (.dK []) ∧ Q (.str "{}") H)
theorem mem_sub {c : Nat} {xs ys : List Nat} (h : ∀ c ∈ xs, c ∈ ys) (m : c ∈ xs) : c ∈ ys := h c m
theorem cr_repr {X : Cx} (hg : X.A.guards = some []) (hu : X.A.units + 65 < cLine) : CallR X (.builtin "repr") (rRepr X.K) := by
  intro pins s σ H xs us Q I r h
  obtain ⟨x, rfl, h⟩ := h
  obtain ⟨u, rfl, ru⟩ := r.one
  rcases h with ⟨p, dp, ok, q⟩ | ⟨a, rfl, rd, q⟩
  · have ok' := ok
    unfold showOk at ok'
    simp only [Bool.and_eq_true, decide_eq_true_eq, Bool.not_eq_true'] at ok'
    obtain ⟨k1, k2, k3, k4⟩ := ok'
    obtain ⟨as, rr⟩ := Dp.reads I p x u dp ru
    have byRef : ∀ {a : Addr}, u = .ref a → wpAny (model X.prog X.w) X.A (call (.builtin "repr") [u]) (EP X pins σ Q) X.xe s := fun {a} e => by
      subst e
      refine repr_of_reads' rr k1 (fun z => by rw [k2] at z; cases z) hg (by omega) (fun _ _ z => z) (fun h' v tk hk => ?_) k4
      exact ⟨.str p.shown, H, I.kept (t' := tk) hk, ⟨_, rfl⟩, q⟩
    cases dp with
    | non => cases (show u = Value.none from ru); exact PySem.P.repr_of_none ⟨.str _, H, I.tok _, ⟨_, rfl⟩, q⟩
    | bl b =>
      cases (show u = Value.bool b from ru)
      refine PySem.P.repr_of_bool ⟨.str _, H, I.tok _, ⟨_, rfl⟩, ?_⟩
      cases b <;> exact q
    | int i =>
      obtain ⟨t, e⟩ := (show ∃ t, u = Value.int i t from ru)
      subst e
      exact PySem.P.repr_of_int (by simpa [PyData.showable] using k1) ⟨.str _, H, I.tok _, ⟨_, rfl⟩, q⟩
    | str y =>
      obtain ⟨t, e⟩ := (show ∃ t, u = Value.str y t from ru)
      subst e
      exact PySem.P.repr_of_str ⟨.str _, H, I.tok _, ⟨_, rfl⟩, q⟩ k4
    | @lst a _ _ _ _ => exact byRef (a := a) ru
    | @tup a _ _ _ _ => exact byRef (a := a) ru
  · cases (show u = Value.ref a from ru)
    obtain ⟨_, hs, vs, kv, o, es, ep, h1, h2, h3, _, h5, _⟩ := dk_rd I.hok rd
    have evs : vs = [] := by cases kv; rfl
    subst evs
    have ees : es.toList = [] := by generalize es.toList = l at h5; cases h5; rfl
    have rr : Reads s.heap (.ref a) (.dict []) (a :: [] ++ []) := .dict (es := es) (kvs := []) h1 h2.1 h3 (by rw [ees]; exact .nil) (by rw [ees]; exact .nil)
    refine repr_of_reads' rr rfl (fun _ z => ?_) hg (by show _ + (_ + 1) < _; simp [PyData.depth, PyData.depthKv]; omega) (fun _ _ z => z) (fun h' v tk hk => ?_) (by decide +kernel)
    · have : sysModules = a := by simpa using z
      rw [this] at hs
      simp at hs
    · exact ⟨.str "{}", H, I.kept (t' := tk) hk, ⟨_, rfl⟩, q⟩
section
variable {X : Cx} {W : WX} {G : Cl} {g : Env → Res (List AO)} {ex : Expr} {es : List Expr} {p pos : Pos}
theorem pr_repr : Prim G (rRepr G.K) oRepr :=
  prim_flat fun L B H vs os o Q ow ho => by
    unfold oRepr at ho
    split at ho
    · rename_i o1
      obtain ⟨v, C, rfl, r⟩ := ow1 ow
      split at ho
      · rename_i hd
        cases ho
        refine ⟨_, _, rfl, fun _ _ => .str _, fun q => ⟨v, rfl, .inr ?_⟩⟩
        cases r with
        | ls _ _ => rw [O.d] at hd; cases hd
        | ob _ _ _ => rw [O.d] at hd; cases hd
        | im r =>
          rw [O.d] at hd
          subst hd
          generalize hx : PV.D.dct [] = x at r
          cases r with
          | @dct a ks vs ds h1 _ l r =>
            cases hx' : ks.zip ds with
            | cons _ _ => rw [hx'] at hx; cases hx
            | nil =>
              have ek : ks = [] := by
                cases ks with
                | nil => rfl
                | cons k ks => cases ds with
                  | nil => simp at l
                  | cons d ds => simp at hx'
              subst ek
              exact ⟨a, rfl, h1, q⟩
          | _ => cases hx
      · rename_i d0 hnd
        split at ho
        · rename_i p hp
          split at ho
          · rename_i ok
            cases ho
            exact ⟨_, _, rfl, fun _ _ => .str _, fun q => ⟨v, rfl, .inl ⟨p, r.dp hp, ok, q⟩⟩⟩
          · cases ho
        · cases ho
    · cases ho
theorem x_repr (hr : RmG 1 X.A) (hm : X.mg "repr" = none) (ha : PA X (ex :: es) (tL G W g)) (hg : Gl X "repr" := by rfl) (he : starEach (ex :: es) X.env = (false, eval ex X.env) :: starEach es X.env := by rfl) (hpl : (backTo pos (starEach es X.env)).any (·.1) = false := by rfl) (hK : X.K = G.K := by rfl) :
    PE X (.Call (.Name "repr" p) (ex :: es) [] pos) (tX G W (fP oRepr g)) := px_bltf pr_repr (hK ▸ cr_repr hr.g (by have := hr.r.un; omega)) hg hm (by decide +kernel) ha (by decide) (by decide) he hpl
end
end PV

set_option Elab.async false
set_option linter.all false
set_option maxRecDepth 100000
set_option maxHeartbeats 4000000
/-! PWh: {}, xs[::-1], str(int) -/
namespace PV
open PySem L2
section
variable {X : Cx} {W : WX} {G : Cl} {B : List Nat}
/-! ### {} -/
def fDict0 : Env → Res AO := fun e => .ok (.v (.im (.dct []))) e
theorem px_dict0 {pos : Pos} : PE X (.Dict [] [] pos) (tX G W fDict0) := peW pe_dnewK fun s H Q ⟨R, e, A, S, k⟩ p np => by
  have nL : ¬ (p ∈ A ∨ R p) := fun h => by
    rcases h with h | h
    · obtain ⟨u, q⟩ := S.dom p h; rw [np] at q; cases q
    · obtain ⟨u, q⟩ := S.ft p h; rw [np] at q; cases q
  have S2 := S.push (u := .dK []) np
  exact k (.ref p) _ A ⟨.so (A := []) (.im (.dct (ks := []) (vs := []) (ds := []) (.inl upd_same) nL rfl .nil)) S2.sl, S2.nd, S2.dj, S2.ft⟩ trivial (Fr.push np)
/-! ### str(n) -/
def oStr : List O → Option O
  | [.im (.int i)] => if i.natAbs.log2 < 1920 then some (.im (.str (toString i))) else none
  | _ => none
theorem x_str {g : Env → Res (List AO)} {ex : Expr} {es : List Expr} {p pos : Pos} (hm : X.mg "str" = none) (ha : PA X (ex :: es) (tL G W g)) (hg : Gl X "str" := by rfl) (he : starEach (ex :: es) X.env = (false, eval ex X.env) :: starEach es X.env := by rfl) (hpl : (backTo pos (starEach es X.env)).any (·.1) = false := by rfl) :
    PE X (.Call (.Name "str" p) (ex :: es) [] pos) (tX G W (fP oStr g)) := px_bltt (prim_flat fun L B H vs os o Q ow ho => by
      unfold oStr at ho
      split at ho
      · rename_i i
        obtain rfl := ow_int1 ow
        split at ho
        · rename_i hi
          cases ho
          exact ⟨_, _, rfl, fun _ _ => .str _, fun q => ⟨i, rfl, hi, q⟩⟩
        · cases ho
      · cases ho) call_str_int hg hm (by decide +kernel) ha (by decide) (by decide) he hpl
/-! ### xs[::-1] -/
def oRev : List O → Option O
  | [o] => (lstD o).map fun ds => .ls (ds.reverse.map O.im)
  | _ => none
theorem pr_rev : Prim G (fun vs H Q => ∃ a xs, vs = [.ref a] ∧ SqL G.K H a xs ∧ ∀ p, H p = none → Q (.ref p) (upd H p (.lst xs.reverse))) oRev := by
  intro R s e A E H vs os o Q S r h k
  unfold oRev at h
  split at h
  · rename_i o1
    rw [Option.map_eq_some_iff] at h
    obtain ⟨ds, h1, rfl⟩ := h
    obtain ⟨v, C, rfl, r1⟩ := ow1 r
    obtain ⟨a, ws, rfl, h3, im⟩ := lstD_ok r1 h1
    refine ⟨a, ws, rfl, .inl h3, fun p np => ?_⟩
    obtain ⟨S2, F2⟩ := S.newi np im.reverse
    exact k _ _ _ S2 F2
  · cases h
theorem x_rev {a : Expr} {f : Env → Res AO} {kk : Nat} {p1 p2 p3 pos : Pos} (ha : PE X a (tX G W f)) (hK : X.K = G.K := by rfl) : PE X (.Subscript a (.Slice none none (some (.UnaryOp .USub (.Constant (.int 1) kk p1) p2)) p3) pos) (tX G W (fP oRev (fCons f fNil))) := by
  refine peW (pe_revL ha) fun s H Q h => ?_
  rw [hK]
  obtain ⟨R, e, A, S, k⟩ := run_prim pr_rev h
  refine ⟨R, e, A, S, ?_⟩
  unfold fCons at k
  cases hf : f e with
  | no => rw [hf] at k; cases k
  | er x e' => rw [hf] at k; exact k
  | ok a e1 =>
    rw [hf] at k
    intro v H1 A1 S1 ft F1
    dsimp only [Res.bind, fNil] at k
    obtain ⟨a', xs, e1, e2, e3⟩ := k [v] H1 A1 S1 rfl (fun j c u hj hu => by
      match j with
      | 0 => simp at hj hu; subst hj; subst hu; exact ft
      | j + 1 => simp at hj) F1
    cases e1
    exact ⟨a', xs, rfl, e2, e3⟩
/-! ### +, where the items of a list are let go -/
def f2F (fo fo' : List O → Option O) (f g : Env → Res AO) : Env → Res AO := fun e => (fCons f (fCons g fNil) e).bind fun as e1 => match gets e1 as with
  | some [x, y] => match fo [x, y] with
    | some o => .ok (.v o) e1
    | none => match pass [.im, .im] as e1 with
      | some ([.im p, .im q], e2, _) => match fo' [.im p, .im q] with
        | some o => .ok (.v o) e2
        | none => .no
      | _ => .no
  | _ => .no
theorem run2F {r : R2} {fo fo' : List O → Option O} {f g : Env → Res AO} {s : St} {H : Hp} {Q : VK} (hp : Prim G (r2L r) fo) (hp' : Prim G (r2L r) fo') (h : tX G W (f2F fo fo' f g) s H Q) : tOp r (tX G W f) (tX G W g) s H Q := by
  have key : tL G W (fCons f (fCons g fNil)) s H fun vs H1 => r2L r vs H1 Q := by
    obtain ⟨R, e, A, S, k⟩ := h
    refine ⟨R, e, A, S, ?_⟩
    unfold f2F at k
    cases hfg : fCons f (fCons g fNil) e with
    | no => rw [hfg] at k; cases k
    | er x e' => rw [hfg] at k; exact k
    | ok as e1 =>
      rw [hfg] at k
      intro vs H1 A1 S1 hl ft F1
      dsimp only [Res.bind] at k
      cases hgs : gets e1 as with
      | none => rw [hgs] at k; cases k
      | some os =>
        rw [hgs] at k
        obtain ⟨B0, ow⟩ := gets_ow (R := R) S1.sl hl ft hgs
        match os, ow, k with
        | [], _, k => cases k
        | [_], _, k => cases k
        | _ :: _ :: _ :: _, _, k => cases k
        | [x, y], ow, k =>
          obtain ⟨v, w, C1, C2, rfl, rx, ry⟩ := ow2 ow
          dsimp only at k
          cases ho : fo [x, y] with
          | some o =>
            rw [ho] at k
            refine hp R _ _ A1 B0 H1 [v, w] [x, y] o Q S1 ow ho fun z H2 A2 S2 F2 => ?_
            have ha2 : as.length = 2 := by simpa using hl.symm
            obtain ⟨A3, S3, m3⟩ := SR.under (xs := [some v, some w]) (cs := as.map AO.cell) (by simp [ha2]) S2
            exact k z H2 A3 S3 trivial ((F1.trans F2).sub m3)
          | none =>
            rw [ho] at k
            dsimp only at k
            cases hps : pass [.im, .im] as e1 with
            | none => rw [hps] at k; cases k
            | some t3 =>
              obtain ⟨os, e2, ws⟩ := t3
              rw [hps] at k
              obtain ⟨A2, S2, m2, l2, l3, l4, w2⟩ := SR.passes [] [] rfl S1 hl ft hps
              have S2 : SR G R H1 ([v, w].map some ++ s) (os.map some ++ e2) A2 := S2
              match os, l2, S2, k with
              | [.im p, .im q], _, S2, k =>
                have S3 : SR G R H1 (some v :: (some w :: s)) (some (.im p) :: (some (.im q) :: e2)) A2 := S2
                obtain ⟨A4, S4, m4⟩ := S3.tail
                obtain ⟨A5, S5, m5⟩ := S4.tail
                have iv : Im G H1 (fun a => a ∈ A5 ∨ R a) v p := by
                  obtain ⟨v', _, _, _, q1, _, q2, _⟩ := SlA.at (i := 0) S3.sl rfl
                  cases q1
                  cases q2 with
                  | im z => exact z.go (Go.less fun a h => h.imp (fun h => m4 a (m5 a h)) id)
                have iw : Im G H1 (fun a => a ∈ A5 ∨ R a) w q := by
                  obtain ⟨v', _, _, _, q1, _, q2, _⟩ := SlA.at (i := 1) S3.sl rfl
                  cases q1
                  cases q2 with
                  | im z => exact z.go (Go.less fun a h => h.imp (fun h => m4 a (m5 a h)) id)
                have F15 : Fr0 H A H1 A5 := F1.sub fun a h => m2 a (m4 a (m5 a h))
                dsimp only at k
                cases ho' : fo' [.im p, .im q] with
                | none => rw [ho'] at k; cases k
                | some o =>
                  rw [ho'] at k
                  exact hp' R _ _ A5 _ H1 [v, w] [.im p, .im q] o Q S5 (.cons (.im iv) (.cons (.im iw) .nil)) ho' fun z H2 A6 S6 F6 => k z H2 A6 S6 trivial (F15.trans F6)
              | [], l2, _, _ => simp at l2
              | [_], l2, _, _ => simp at l2
              | _ :: _ :: _ :: _, l2, _, _ => simp at l2
              | [.ls _, _], _, _, k => cases k
              | [.ob _ _ _, _], _, _, k => cases k
              | [.im _, .ls _], _, _, k => cases k
              | [.im _, .ob _ _ _], _, _, k => cases k
  have q := tl_cons key
  obtain ⟨R, e, A, S, k⟩ := q
  refine ⟨R, e, A, S, ?_⟩
  cases hf : f e with
  | no => rw [hf] at k; cases k
  | er x e' => rw [hf] at k; exact k
  | ok a e1 =>
    rw [hf] at k
    intro v H1 A1 S1 ft F1
    have z := tl_cons (k v H1 A1 S1 ft F1)
    obtain ⟨R2, e2, A2, S2, k2⟩ := z
    refine ⟨R2, e2, A2, S2, ?_⟩
    cases hg : g e2 with
    | no => rw [hg] at k2; cases k2
    | er x e' => rw [hg] at k2; exact k2
    | ok b e3 =>
      rw [hg] at k2
      intro w H2 A3 S3 ft3 F3
      exact tl_nil (k2 w H2 A3 S3 ft3 F3)
theorem pr_catO {r : R2} : Prim G (r2L fun x y H Q => r x y H Q ∨ rCatR x y H Q) catO := by
  intro R s e A E H vs os o Q S ow ho k
  have := pr_cat R s e A E H vs os o Q S ow ho k
  match vs, this with
  | [], _ => trivial
  | [_], _ => trivial
  | [x, y], z => exact .inr z
  | _ :: _ :: _ :: _, _ => trivial
theorem x_plus2 {a b : Expr} {f g : Env → Res AO} {pos : Pos} (ha : PE X a (tX G W f)) (hb : PE X b (tX G W g)) : PE X (.BinOp a .Add b pos) (tX G W (f2F oPlus catO f g)) :=
  peW (pe_op (op_add.or op_catR) ha hb) fun s H Q h => run2F ((pr_I20 fun _ _ _ _ => .int _).or pr_cat) pr_catO h
end
end PV

set_option Elab.async false
set_option linter.all false
set_option maxRecDepth 100000
set_option maxHeartbeats 4000000
/-! PWs: the later readings as rows for simp -/
namespace PV
open PySem L2
/-! + -/
def opG (fo' : List O → Option O) (r : Option O) (a b : AO) (e : Env) : Res AO := match r with
  | some o => .ok (.v o) e
  | none => match pass [.im, .im] [a, b] e with
    | some ([.im p, .im q], e2, _) => match fo' [.im p, .im q] with
      | some o => .ok (.v o) e2
      | none => .no
    | _ => .no
@[simp] theorem opG_some (fo' : List O → Option O) (o : O) (a b : AO) (e : Env) : opG fo' (some o) a b e = .ok (.v o) e := rfl
@[simp] theorem opG_none (fo' : List O → Option O) (a b : AO) (e : Env) : opG fo' none a b e = (Res.opt (pass [.im, .im] [a, b] e) e).bind fun q _ => match q with
    | ([.im x, .im y], e2, _) => Res.opt ((fo' [.im x, .im y]).map AO.v) e2
    | _ => .no := by
  unfold opG
  dsimp only
  cases pass [.im, .im] [a, b] e with
  | none => rfl
  | some q =>
    obtain ⟨os, e2, ws⟩ := q
    match os with
    | [] => rfl
    | [o1] => cases o1 <;> rfl
    | o1 :: o2 :: _ :: _ => cases o1 <;> cases o2 <;> rfl
    | [.im x, .im y] => show (match fo' [.im x, .im y] with | some o => _ | none => _) = Res.opt ((fo' [.im x, .im y]).map AO.v) e2; cases fo' [.im x, .im y] <;> rfl
    | [.ls _, o2] => cases o2 <;> rfl
    | [.ob _ _ _, o2] => cases o2 <;> rfl
    | [.im _, .ls _] => rfl
    | [.im _, .ob _ _ _] => rfl
@[simp] theorem e_2F (fo fo' : List O → Option O) (f g : Env → Res AO) (e : Env) : f2F fo fo' f g e = (f e).bind fun a e1 => (g e1).bind fun b e2 => (Res.opt ((a.get e2).bind fun x => (b.get e2).map fun y => (x, y)) e2).bind fun q _ => opG fo' (fo [q.1, q.2]) a b e2 := by
  unfold f2F
  rw [e_Cons]
  cases f e with
  | no => rfl
  | er x e' => rfl
  | ok a e1 =>
    rw [bind_ok', bind_ok']
    rw [e_Cons]
    cases g e1 with
    | no => rfl
    | er x e' => rfl
    | ok b e2 =>
      rw [bind_ok', e_Nil, bind_ok', bind_ok', bind_ok', bind_ok']
      rw [gets_cons, gets_cons, gets_nil]
      cases a.get e2 with
      | none => rfl
      | some x =>
        dsimp only [Option.bind]
        cases b.get e2 with
        | none => rfl
        | some y =>
          show (match fo [x, y] with | some o => _ | none => _) = opG fo' (fo [x, y]) a b e2
          cases fo [x, y] <;> rfl
theorem o_PlusL (xs : List O) (y : O) : oPlus [.ls xs, y] = catO [.ls xs, y] := rfl
theorem o_PlusD (xs : List D) (y : O) : oPlus [.im (.lst xs), y] = catO [.im (.lst xs), y] := rfl
@[simp] theorem o_cat (x y : O) : catO [x, y] = (lstD x).bind fun ds => (lstD y).bind fun es => if ds.length + es.length ≤ sizeLine then some (.ls ((ds ++ es).map O.im)) else none := by
  show (match lstD x, lstD y with | some ds, some es => _ | _, _ => _) = _
  cases lstD x with
  | none => rfl
  | some ds => dsimp only [Option.bind]; cases lstD y <;> rfl
@[simp] theorem lstD_ls (os : List O) : lstD (.ls os) = allIm os := rfl
@[simp] theorem lstD_lst (ds : List D) : lstD (.im (.lst ds)) = some ds := rfl
@[simp] theorem allIm_ls (xs : List O) (os : List O) : allIm (.ls xs :: os) = none := rfl
@[simp] theorem allIm_ob (c : Nat) (ns : List Str) (xs : List O) (os : List O) : allIm (.ob c ns xs :: os) = none := rfl
/-! own comparisons -/
@[simp] theorem kls_ins (c : Nat) (fs : List (Str × D)) : kls (.im (.ins c fs)) = some c := rfl
@[simp] theorem kls_ob (c : Nat) (ns : List Str) (os : List O) : kls (.ob c ns os) = some c := rfl
@[simp] theorem kls_ls (os : List O) : kls (.ls os) = none := rfl
@[simp] theorem kls_int (i : Int) : kls (.im (.int i)) = none := rfl
@[simp] theorem kls_bl (i : Bool) : kls (.im (.bl i)) = none := rfl
@[simp] theorem kls_str (i : Str) : kls (.im (.str i)) = none := rfl
@[simp] theorem kls_non : kls (.im .non) = none := rfl
@[simp] theorem kls_lst (ds : List D) : kls (.im (.lst ds)) = none := rfl
@[simp] theorem kls_tup (ds : List D) : kls (.im (.tup ds)) = none := rfl
@[simp] theorem kls_dct (ds : List (Key × D)) : kls (.im (.dct ds)) = none := rfl
def FRes.ask (r : FRes) (neg : Bool) (e : Env) : Res AO := match r with
  | .ok (.im (.bl b)) _ => .ok (.v (.im (.bl (b != neg)))) e
  | _ => .no
@[simp] theorem ask_ok (b neg : Bool) (os : List O) (e : Env) : (FRes.ok (.im (.bl b)) os).ask neg e = .ok (.v (.im (.bl (b != neg)))) e := rfl
theorem ownAsk_eq (F : List O → FRes) (p q : D) (neg : Bool) (e : Env) : ownAsk F p q neg e = (F [.im p, .im q]).ask neg e := rfl
def ownG (own : OwnT) (ok : List Nat) (rf neg : Bool) (p q : D) (e : Env) : Res AO := match kls (.im p) with
  | some c => match own.lookup c with
    | some F => if okY ok (.im q) = true then (F [.im p, .im q]).ask neg e else .no
    | none => .no
  | none => match kls (.im q) with
    | some c => match own.lookup c with
      | some F => if rf = true then (match tyD p with
        | some t => if t ∈ kinds then (F [.im q, .im p]).ask false e else .no
        | none => .no) else .no
      | none => .no
    | none => .no
def cmpG (fo : Option O) (own : OwnT) (ok : List Nat) (rf neg : Bool) (x y : O) (a b : AO) (e : Env) : Res AO :=
  if ((kls x).isNone && (kls y).isNone) = true then Res.opt (fo.map AO.v) e else
    (Res.opt (pass [.im, .im] [a, b] e) e).bind fun q _ => match q with
      | ([.im x, .im y], e2, _) => ownG own ok rf neg x y e2
      | _ => .no
@[simp] theorem e_CmpO (fo : List O → Option O) (own : OwnT) (ok : List Nat) (rf neg : Bool) (f g : Env → Res AO) (e : Env) : fCmpO fo own ok rf neg f g e = (f e).bind fun a e1 => (g e1).bind fun b e2 => (Res.opt ((a.get e2).bind fun x => (b.get e2).map fun y => (x, y)) e2).bind fun q _ => cmpG (fo [q.1, q.2]) own ok rf neg q.1 q.2 a b e2 := by
  unfold fCmpO
  rw [e_Cons]
  cases f e with
  | no => rfl
  | er x e' => rfl
  | ok a e1 =>
    rw [bind_ok', bind_ok']
    rw [e_Cons]
    cases g e1 with
    | no => rfl
    | er x e' => rfl
    | ok b e2 =>
      rw [bind_ok', e_Nil, bind_ok', bind_ok', bind_ok', bind_ok']
      rw [gets_cons, gets_cons, gets_nil]
      cases a.get e2 with
      | none => rfl
      | some x =>
        dsimp only [Option.bind]
        cases b.get e2 with
        | none => rfl
        | some y =>
          show (if _ then (match fo [x, y] with | some o => _ | none => _) else fOwn2 own ok rf neg [a, b] e2) = cmpG (fo [x, y]) own ok rf neg x y a b e2
          unfold cmpG fOwn2
          by_cases h : ((kls x).isNone && (kls y).isNone) = true
          · rw [if_pos h, if_pos h]
            cases fo [x, y] <;> rfl
          · rw [if_neg h, if_neg h]
            cases pass [.im, .im] [a, b] e2 with
            | none => rfl
            | some q =>
              obtain ⟨os, e3, ws⟩ := q
              match os with
              | [] => rfl
              | [o1] => cases o1 <;> rfl
              | o1 :: o2 :: _ :: _ => cases o1 <;> cases o2 <;> rfl
              | [.im x, .im y] => rfl
              | [.ls _, o2] => cases o2 <;> rfl
              | [.ob _ _ _, o2] => cases o2 <;> rfl
              | [.im _, .ls _] => rfl
              | [.im _, .ob _ _ _] => rfl
theorem cmpG_data {x y : O} (hx : kls x = none) (hy : kls y = none) (fo : Option O) (own : OwnT) (ok : List Nat) (rf neg : Bool) (a b : AO) (e : Env) : cmpG fo own ok rf neg x y a b e = Res.opt (fo.map AO.v) e := by
  unfold cmpG; rw [hx, hy]; rfl
@[simp] theorem cmpG_l (c : Nat) (fs : List (Str × D)) (y : O) (fo : Option O) (own : OwnT) (ok : List Nat) (rf neg : Bool) (a b : AO) (e : Env) : cmpG fo own ok rf neg (.im (.ins c fs)) y a b e = (Res.opt (pass [.im, .im] [a, b] e) e).bind fun q _ => match q with
      | ([.im x, .im y], e2, _) => ownG own ok rf neg x y e2
      | _ => .no := rfl
@[simp] theorem cmpG_obl (c : Nat) (ns : List Str) (os : List O) (y : O) (fo : Option O) (own : OwnT) (ok : List Nat) (rf neg : Bool) (a b : AO) (e : Env) : cmpG fo own ok rf neg (.ob c ns os) y a b e = (Res.opt (pass [.im, .im] [a, b] e) e).bind fun q _ => match q with
      | ([.im x, .im y], e2, _) => ownG own ok rf neg x y e2
      | _ => .no := rfl
theorem cmpG_r {x : O} (hx : kls x = none) (c : Nat) (fs : List (Str × D)) (fo : Option O) (own : OwnT) (ok : List Nat) (rf neg : Bool) (a b : AO) (e : Env) : cmpG fo own ok rf neg x (.im (.ins c fs)) a b e = (Res.opt (pass [.im, .im] [a, b] e) e).bind fun q _ => match q with
      | ([.im x, .im y], e2, _) => ownG own ok rf neg x y e2
      | _ => .no := by
  unfold cmpG; rw [hx]; rfl
@[simp] theorem cmpG_ii (x : Int) (y : Int) (fo : Option O) (own : OwnT) (ok : List Nat) (rf neg : Bool) (a b : AO) (e : Env) : cmpG fo own ok rf neg (.im (.int x)) (.im (.int y)) a b e = Res.opt (fo.map AO.v) e := rfl
@[simp] theorem cmpG_ib (x : Int) (y : Bool) (fo : Option O) (own : OwnT) (ok : List Nat) (rf neg : Bool) (a b : AO) (e : Env) : cmpG fo own ok rf neg (.im (.int x)) (.im (.bl y)) a b e = Res.opt (fo.map AO.v) e := rfl
@[simp] theorem cmpG_is (x : Int) (y : Str) (fo : Option O) (own : OwnT) (ok : List Nat) (rf neg : Bool) (a b : AO) (e : Env) : cmpG fo own ok rf neg (.im (.int x)) (.im (.str y)) a b e = Res.opt (fo.map AO.v) e := rfl
@[simp] theorem cmpG_in (x : Int)  (fo : Option O) (own : OwnT) (ok : List Nat) (rf neg : Bool) (a b : AO) (e : Env) : cmpG fo own ok rf neg (.im (.int x)) (.im .non) a b e = Res.opt (fo.map AO.v) e := rfl
@[simp] theorem cmpG_il (x : Int) (y : List D) (fo : Option O) (own : OwnT) (ok : List Nat) (rf neg : Bool) (a b : AO) (e : Env) : cmpG fo own ok rf neg (.im (.int x)) (.im (.lst y)) a b e = Res.opt (fo.map AO.v) e := rfl
@[simp] theorem cmpG_it (x : Int) (y : List D) (fo : Option O) (own : OwnT) (ok : List Nat) (rf neg : Bool) (a b : AO) (e : Env) : cmpG fo own ok rf neg (.im (.int x)) (.im (.tup y)) a b e = Res.opt (fo.map AO.v) e := rfl
@[simp] theorem cmpG_id (x : Int) (y : List (Key × D)) (fo : Option O) (own : OwnT) (ok : List Nat) (rf neg : Bool) (a b : AO) (e : Env) : cmpG fo own ok rf neg (.im (.int x)) (.im (.dct y)) a b e = Res.opt (fo.map AO.v) e := rfl
@[simp] theorem cmpG_io (x : Int) (y : List O) (fo : Option O) (own : OwnT) (ok : List Nat) (rf neg : Bool) (a b : AO) (e : Env) : cmpG fo own ok rf neg (.im (.int x)) (.ls y) a b e = Res.opt (fo.map AO.v) e := rfl
@[simp] theorem cmpG_bi (x : Bool) (y : Int) (fo : Option O) (own : OwnT) (ok : List Nat) (rf neg : Bool) (a b : AO) (e : Env) : cmpG fo own ok rf neg (.im (.bl x)) (.im (.int y)) a b e = Res.opt (fo.map AO.v) e := rfl
@[simp] theorem cmpG_bb (x : Bool) (y : Bool) (fo : Option O) (own : OwnT) (ok : List Nat) (rf neg : Bool) (a b : AO) (e : Env) : cmpG fo own ok rf neg (.im (.bl x)) (.im (.bl y)) a b e = Res.opt (fo.map AO.v) e := rfl
@[simp] theorem cmpG_bs (x : Bool) (y : Str) (fo : Option O) (own : OwnT) (ok : List Nat) (rf neg : Bool) (a b : AO) (e : Env) : cmpG fo own ok rf neg (.im (.bl x)) (.im (.str y)) a b e = Res.opt (fo.map AO.v) e := rfl
@[simp] theorem cmpG_bn (x : Bool)  (fo : Option O) (own : OwnT) (ok : List Nat) (rf neg : Bool) (a b : AO) (e : Env) : cmpG fo own ok rf neg (.im (.bl x)) (.im .non) a b e = Res.opt (fo.map AO.v) e := rfl
@[simp] theorem cmpG_bl (x : Bool) (y : List D) (fo : Option O) (own : OwnT) (ok : List Nat) (rf neg : Bool) (a b : AO) (e : Env) : cmpG fo own ok rf neg (.im (.bl x)) (.im (.lst y)) a b e = Res.opt (fo.map AO.v) e := rfl
@[simp] theorem cmpG_bt (x : Bool) (y : List D) (fo : Option O) (own : OwnT) (ok : List Nat) (rf neg : Bool) (a b : AO) (e : Env) : cmpG fo own ok rf neg (.im (.bl x)) (.im (.tup y)) a b e = Res.opt (fo.map AO.v) e := rfl
@[simp] theorem cmpG_bd (x : Bool) (y : List (Key × D)) (fo : Option O) (own : OwnT) (ok : List Nat) (rf neg : Bool) (a b : AO) (e : Env) : cmpG fo own ok rf neg (.im (.bl x)) (.im (.dct y)) a b e = Res.opt (fo.map AO.v) e := rfl
@[simp] theorem cmpG_bo (x : Bool) (y : List O) (fo : Option O) (own : OwnT) (ok : List Nat) (rf neg : Bool) (a b : AO) (e : Env) : cmpG fo own ok rf neg (.im (.bl x)) (.ls y) a b e = Res.opt (fo.map AO.v) e := rfl
@[simp] theorem cmpG_si (x : Str) (y : Int) (fo : Option O) (own : OwnT) (ok : List Nat) (rf neg : Bool) (a b : AO) (e : Env) : cmpG fo own ok rf neg (.im (.str x)) (.im (.int y)) a b e = Res.opt (fo.map AO.v) e := rfl
@[simp] theorem cmpG_sb (x : Str) (y : Bool) (fo : Option O) (own : OwnT) (ok : List Nat) (rf neg : Bool) (a b : AO) (e : Env) : cmpG fo own ok rf neg (.im (.str x)) (.im (.bl y)) a b e = Res.opt (fo.map AO.v) e := rfl
@[simp] theorem cmpG_ss (x : Str) (y : Str) (fo : Option O) (own : OwnT) (ok : List Nat) (rf neg : Bool) (a b : AO) (e : Env) : cmpG fo own ok rf neg (.im (.str x)) (.im (.str y)) a b e = Res.opt (fo.map AO.v) e := rfl
@[simp] theorem cmpG_sn (x : Str)  (fo : Option O) (own : OwnT) (ok : List Nat) (rf neg : Bool) (a b : AO) (e : Env) : cmpG fo own ok rf neg (.im (.str x)) (.im .non) a b e = Res.opt (fo.map AO.v) e := rfl
@[simp] theorem cmpG_sl (x : Str) (y : List D) (fo : Option O) (own : OwnT) (ok : List Nat) (rf neg : Bool) (a b : AO) (e : Env) : cmpG fo own ok rf neg (.im (.str x)) (.im (.lst y)) a b e = Res.opt (fo.map AO.v) e := rfl
@[simp] theorem cmpG_st (x : Str) (y : List D) (fo : Option O) (own : OwnT) (ok : List Nat) (rf neg : Bool) (a b : AO) (e : Env) : cmpG fo own ok rf neg (.im (.str x)) (.im (.tup y)) a b e = Res.opt (fo.map AO.v) e := rfl
@[simp] theorem cmpG_sd (x : Str) (y : List (Key × D)) (fo : Option O) (own : OwnT) (ok : List Nat) (rf neg : Bool) (a b : AO) (e : Env) : cmpG fo own ok rf neg (.im (.str x)) (.im (.dct y)) a b e = Res.opt (fo.map AO.v) e := rfl
@[simp] theorem cmpG_so (x : Str) (y : List O) (fo : Option O) (own : OwnT) (ok : List Nat) (rf neg : Bool) (a b : AO) (e : Env) : cmpG fo own ok rf neg (.im (.str x)) (.ls y) a b e = Res.opt (fo.map AO.v) e := rfl
@[simp] theorem cmpG_ni  (y : Int) (fo : Option O) (own : OwnT) (ok : List Nat) (rf neg : Bool) (a b : AO) (e : Env) : cmpG fo own ok rf neg (.im .non) (.im (.int y)) a b e = Res.opt (fo.map AO.v) e := rfl
@[simp] theorem cmpG_nb  (y : Bool) (fo : Option O) (own : OwnT) (ok : List Nat) (rf neg : Bool) (a b : AO) (e : Env) : cmpG fo own ok rf neg (.im .non) (.im (.bl y)) a b e = Res.opt (fo.map AO.v) e := rfl
@[simp] theorem cmpG_ns  (y : Str) (fo : Option O) (own : OwnT) (ok : List Nat) (rf neg : Bool) (a b : AO) (e : Env) : cmpG fo own ok rf neg (.im .non) (.im (.str y)) a b e = Res.opt (fo.map AO.v) e := rfl
@[simp] theorem cmpG_nn   (fo : Option O) (own : OwnT) (ok : List Nat) (rf neg : Bool) (a b : AO) (e : Env) : cmpG fo own ok rf neg (.im .non) (.im .non) a b e = Res.opt (fo.map AO.v) e := rfl
@[simp] theorem cmpG_nl  (y : List D) (fo : Option O) (own : OwnT) (ok : List Nat) (rf neg : Bool) (a b : AO) (e : Env) : cmpG fo own ok rf neg (.im .non) (.im (.lst y)) a b e = Res.opt (fo.map AO.v) e := rfl
@[simp] theorem cmpG_nt  (y : List D) (fo : Option O) (own : OwnT) (ok : List Nat) (rf neg : Bool) (a b : AO) (e : Env) : cmpG fo own ok rf neg (.im .non) (.im (.tup y)) a b e = Res.opt (fo.map AO.v) e := rfl
@[simp] theorem cmpG_nd  (y : List (Key × D)) (fo : Option O) (own : OwnT) (ok : List Nat) (rf neg : Bool) (a b : AO) (e : Env) : cmpG fo own ok rf neg (.im .non) (.im (.dct y)) a b e = Res.opt (fo.map AO.v) e := rfl
@[simp] theorem cmpG_no  (y : List O) (fo : Option O) (own : OwnT) (ok : List Nat) (rf neg : Bool) (a b : AO) (e : Env) : cmpG fo own ok rf neg (.im .non) (.ls y) a b e = Res.opt (fo.map AO.v) e := rfl
@[simp] theorem cmpG_li (x : List D) (y : Int) (fo : Option O) (own : OwnT) (ok : List Nat) (rf neg : Bool) (a b : AO) (e : Env) : cmpG fo own ok rf neg (.im (.lst x)) (.im (.int y)) a b e = Res.opt (fo.map AO.v) e := rfl
@[simp] theorem cmpG_lb (x : List D) (y : Bool) (fo : Option O) (own : OwnT) (ok : List Nat) (rf neg : Bool) (a b : AO) (e : Env) : cmpG fo own ok rf neg (.im (.lst x)) (.im (.bl y)) a b e = Res.opt (fo.map AO.v) e := rfl
@[simp] theorem cmpG_ls (x : List D) (y : Str) (fo : Option O) (own : OwnT) (ok : List Nat) (rf neg : Bool) (a b : AO) (e : Env) : cmpG fo own ok rf neg (.im (.lst x)) (.im (.str y)) a b e = Res.opt (fo.map AO.v) e := rfl
@[simp] theorem cmpG_ln (x : List D)  (fo : Option O) (own : OwnT) (ok : List Nat) (rf neg : Bool) (a b : AO) (e : Env) : cmpG fo own ok rf neg (.im (.lst x)) (.im .non) a b e = Res.opt (fo.map AO.v) e := rfl
@[simp] theorem cmpG_ll (x : List D) (y : List D) (fo : Option O) (own : OwnT) (ok : List Nat) (rf neg : Bool) (a b : AO) (e : Env) : cmpG fo own ok rf neg (.im (.lst x)) (.im (.lst y)) a b e = Res.opt (fo.map AO.v) e := rfl
@[simp] theorem cmpG_lt (x : List D) (y : List D) (fo : Option O) (own : OwnT) (ok : List Nat) (rf neg : Bool) (a b : AO) (e : Env) : cmpG fo own ok rf neg (.im (.lst x)) (.im (.tup y)) a b e = Res.opt (fo.map AO.v) e := rfl
@[simp] theorem cmpG_ld (x : List D) (y : List (Key × D)) (fo : Option O) (own : OwnT) (ok : List Nat) (rf neg : Bool) (a b : AO) (e : Env) : cmpG fo own ok rf neg (.im (.lst x)) (.im (.dct y)) a b e = Res.opt (fo.map AO.v) e := rfl
@[simp] theorem cmpG_lo (x : List D) (y : List O) (fo : Option O) (own : OwnT) (ok : List Nat) (rf neg : Bool) (a b : AO) (e : Env) : cmpG fo own ok rf neg (.im (.lst x)) (.ls y) a b e = Res.opt (fo.map AO.v) e := rfl
@[simp] theorem cmpG_ti (x : List D) (y : Int) (fo : Option O) (own : OwnT) (ok : List Nat) (rf neg : Bool) (a b : AO) (e : Env) : cmpG fo own ok rf neg (.im (.tup x)) (.im (.int y)) a b e = Res.opt (fo.map AO.v) e := rfl
@[simp] theorem cmpG_tb (x : List D) (y : Bool) (fo : Option O) (own : OwnT) (ok : List Nat) (rf neg : Bool) (a b : AO) (e : Env) : cmpG fo own ok rf neg (.im (.tup x)) (.im (.bl y)) a b e = Res.opt (fo.map AO.v) e := rfl
@[simp] theorem cmpG_ts (x : List D) (y : Str) (fo : Option O) (own : OwnT) (ok : List Nat) (rf neg : Bool) (a b : AO) (e : Env) : cmpG fo own ok rf neg (.im (.tup x)) (.im (.str y)) a b e = Res.opt (fo.map AO.v) e := rfl
@[simp] theorem cmpG_tn (x : List D)  (fo : Option O) (own : OwnT) (ok : List Nat) (rf neg : Bool) (a b : AO) (e : Env) : cmpG fo own ok rf neg (.im (.tup x)) (.im .non) a b e = Res.opt (fo.map AO.v) e := rfl
@[simp] theorem cmpG_tl (x : List D) (y : List D) (fo : Option O) (own : OwnT) (ok : List Nat) (rf neg : Bool) (a b : AO) (e : Env) : cmpG fo own ok rf neg (.im (.tup x)) (.im (.lst y)) a b e = Res.opt (fo.map AO.v) e := rfl
@[simp] theorem cmpG_tt (x : List D) (y : List D) (fo : Option O) (own : OwnT) (ok : List Nat) (rf neg : Bool) (a b : AO) (e : Env) : cmpG fo own ok rf neg (.im (.tup x)) (.im (.tup y)) a b e = Res.opt (fo.map AO.v) e := rfl
@[simp] theorem cmpG_td (x : List D) (y : List (Key × D)) (fo : Option O) (own : OwnT) (ok : List Nat) (rf neg : Bool) (a b : AO) (e : Env) : cmpG fo own ok rf neg (.im (.tup x)) (.im (.dct y)) a b e = Res.opt (fo.map AO.v) e := rfl
@[simp] theorem cmpG_to (x : List D) (y : List O) (fo : Option O) (own : OwnT) (ok : List Nat) (rf neg : Bool) (a b : AO) (e : Env) : cmpG fo own ok rf neg (.im (.tup x)) (.ls y) a b e = Res.opt (fo.map AO.v) e := rfl
@[simp] theorem cmpG_di (x : List (Key × D)) (y : Int) (fo : Option O) (own : OwnT) (ok : List Nat) (rf neg : Bool) (a b : AO) (e : Env) : cmpG fo own ok rf neg (.im (.dct x)) (.im (.int y)) a b e = Res.opt (fo.map AO.v) e := rfl
@[simp] theorem cmpG_db (x : List (Key × D)) (y : Bool) (fo : Option O) (own : OwnT) (ok : List Nat) (rf neg : Bool) (a b : AO) (e : Env) : cmpG fo own ok rf neg (.im (.dct x)) (.im (.bl y)) a b e = Res.opt (fo.map AO.v) e := rfl
@[simp] theorem cmpG_ds (x : List (Key × D)) (y : Str) (fo : Option O) (own : OwnT) (ok : List Nat) (rf neg : Bool) (a b : AO) (e : Env) : cmpG fo own ok rf neg (.im (.dct x)) (.im (.str y)) a b e = Res.opt (fo.map AO.v) e := rfl
@[simp] theorem cmpG_dn (x : List (Key × D))  (fo : Option O) (own : OwnT) (ok : List Nat) (rf neg : Bool) (a b : AO) (e : Env) : cmpG fo own ok rf neg (.im (.dct x)) (.im .non) a b e = Res.opt (fo.map AO.v) e := rfl
@[simp] theorem cmpG_dl (x : List (Key × D)) (y : List D) (fo : Option O) (own : OwnT) (ok : List Nat) (rf neg : Bool) (a b : AO) (e : Env) : cmpG fo own ok rf neg (.im (.dct x)) (.im (.lst y)) a b e = Res.opt (fo.map AO.v) e := rfl
@[simp] theorem cmpG_dt (x : List (Key × D)) (y : List D) (fo : Option O) (own : OwnT) (ok : List Nat) (rf neg : Bool) (a b : AO) (e : Env) : cmpG fo own ok rf neg (.im (.dct x)) (.im (.tup y)) a b e = Res.opt (fo.map AO.v) e := rfl
@[simp] theorem cmpG_dd (x : List (Key × D)) (y : List (Key × D)) (fo : Option O) (own : OwnT) (ok : List Nat) (rf neg : Bool) (a b : AO) (e : Env) : cmpG fo own ok rf neg (.im (.dct x)) (.im (.dct y)) a b e = Res.opt (fo.map AO.v) e := rfl
@[simp] theorem cmpG_do (x : List (Key × D)) (y : List O) (fo : Option O) (own : OwnT) (ok : List Nat) (rf neg : Bool) (a b : AO) (e : Env) : cmpG fo own ok rf neg (.im (.dct x)) (.ls y) a b e = Res.opt (fo.map AO.v) e := rfl
@[simp] theorem cmpG_oi (x : List O) (y : Int) (fo : Option O) (own : OwnT) (ok : List Nat) (rf neg : Bool) (a b : AO) (e : Env) : cmpG fo own ok rf neg (.ls x) (.im (.int y)) a b e = Res.opt (fo.map AO.v) e := rfl
@[simp] theorem cmpG_ob (x : List O) (y : Bool) (fo : Option O) (own : OwnT) (ok : List Nat) (rf neg : Bool) (a b : AO) (e : Env) : cmpG fo own ok rf neg (.ls x) (.im (.bl y)) a b e = Res.opt (fo.map AO.v) e := rfl
@[simp] theorem cmpG_os (x : List O) (y : Str) (fo : Option O) (own : OwnT) (ok : List Nat) (rf neg : Bool) (a b : AO) (e : Env) : cmpG fo own ok rf neg (.ls x) (.im (.str y)) a b e = Res.opt (fo.map AO.v) e := rfl
@[simp] theorem cmpG_on (x : List O)  (fo : Option O) (own : OwnT) (ok : List Nat) (rf neg : Bool) (a b : AO) (e : Env) : cmpG fo own ok rf neg (.ls x) (.im .non) a b e = Res.opt (fo.map AO.v) e := rfl
@[simp] theorem cmpG_ol (x : List O) (y : List D) (fo : Option O) (own : OwnT) (ok : List Nat) (rf neg : Bool) (a b : AO) (e : Env) : cmpG fo own ok rf neg (.ls x) (.im (.lst y)) a b e = Res.opt (fo.map AO.v) e := rfl
@[simp] theorem cmpG_ot (x : List O) (y : List D) (fo : Option O) (own : OwnT) (ok : List Nat) (rf neg : Bool) (a b : AO) (e : Env) : cmpG fo own ok rf neg (.ls x) (.im (.tup y)) a b e = Res.opt (fo.map AO.v) e := rfl
@[simp] theorem cmpG_od (x : List O) (y : List (Key × D)) (fo : Option O) (own : OwnT) (ok : List Nat) (rf neg : Bool) (a b : AO) (e : Env) : cmpG fo own ok rf neg (.ls x) (.im (.dct y)) a b e = Res.opt (fo.map AO.v) e := rfl
@[simp] theorem cmpG_oo (x : List O) (y : List O) (fo : Option O) (own : OwnT) (ok : List Nat) (rf neg : Bool) (a b : AO) (e : Env) : cmpG fo own ok rf neg (.ls x) (.ls y) a b e = Res.opt (fo.map AO.v) e := rfl
@[simp] theorem cmpG_ir (x : Int) (c : Nat) (fs : List (Str × D)) (fo : Option O) (own : OwnT) (ok : List Nat) (rf neg : Bool) (a b : AO) (e : Env) : cmpG fo own ok rf neg (.im (.int x)) (.im (.ins c fs)) a b e = (Res.opt (pass [.im, .im] [a, b] e) e).bind fun q _ => match q with
      | ([.im x, .im y], e2, _) => ownG own ok rf neg x y e2
      | _ => .no := rfl
@[simp] theorem cmpG_br (x : Bool) (c : Nat) (fs : List (Str × D)) (fo : Option O) (own : OwnT) (ok : List Nat) (rf neg : Bool) (a b : AO) (e : Env) : cmpG fo own ok rf neg (.im (.bl x)) (.im (.ins c fs)) a b e = (Res.opt (pass [.im, .im] [a, b] e) e).bind fun q _ => match q with
      | ([.im x, .im y], e2, _) => ownG own ok rf neg x y e2
      | _ => .no := rfl
@[simp] theorem cmpG_sr (x : Str) (c : Nat) (fs : List (Str × D)) (fo : Option O) (own : OwnT) (ok : List Nat) (rf neg : Bool) (a b : AO) (e : Env) : cmpG fo own ok rf neg (.im (.str x)) (.im (.ins c fs)) a b e = (Res.opt (pass [.im, .im] [a, b] e) e).bind fun q _ => match q with
      | ([.im x, .im y], e2, _) => ownG own ok rf neg x y e2
      | _ => .no := rfl
@[simp] theorem cmpG_nr  (c : Nat) (fs : List (Str × D)) (fo : Option O) (own : OwnT) (ok : List Nat) (rf neg : Bool) (a b : AO) (e : Env) : cmpG fo own ok rf neg (.im .non) (.im (.ins c fs)) a b e = (Res.opt (pass [.im, .im] [a, b] e) e).bind fun q _ => match q with
      | ([.im x, .im y], e2, _) => ownG own ok rf neg x y e2
      | _ => .no := rfl
@[simp] theorem cmpG_lr (x : List D) (c : Nat) (fs : List (Str × D)) (fo : Option O) (own : OwnT) (ok : List Nat) (rf neg : Bool) (a b : AO) (e : Env) : cmpG fo own ok rf neg (.im (.lst x)) (.im (.ins c fs)) a b e = (Res.opt (pass [.im, .im] [a, b] e) e).bind fun q _ => match q with
      | ([.im x, .im y], e2, _) => ownG own ok rf neg x y e2
      | _ => .no := rfl
@[simp] theorem cmpG_tr (x : List D) (c : Nat) (fs : List (Str × D)) (fo : Option O) (own : OwnT) (ok : List Nat) (rf neg : Bool) (a b : AO) (e : Env) : cmpG fo own ok rf neg (.im (.tup x)) (.im (.ins c fs)) a b e = (Res.opt (pass [.im, .im] [a, b] e) e).bind fun q _ => match q with
      | ([.im x, .im y], e2, _) => ownG own ok rf neg x y e2
      | _ => .no := rfl
@[simp] theorem cmpG_dr (x : List (Key × D)) (c : Nat) (fs : List (Str × D)) (fo : Option O) (own : OwnT) (ok : List Nat) (rf neg : Bool) (a b : AO) (e : Env) : cmpG fo own ok rf neg (.im (.dct x)) (.im (.ins c fs)) a b e = (Res.opt (pass [.im, .im] [a, b] e) e).bind fun q _ => match q with
      | ([.im x, .im y], e2, _) => ownG own ok rf neg x y e2
      | _ => .no := rfl
@[simp] theorem cmpG_or (x : List O) (c : Nat) (fs : List (Str × D)) (fo : Option O) (own : OwnT) (ok : List Nat) (rf neg : Bool) (a b : AO) (e : Env) : cmpG fo own ok rf neg (.ls x) (.im (.ins c fs)) a b e = (Res.opt (pass [.im, .im] [a, b] e) e).bind fun q _ => match q with
      | ([.im x, .im y], e2, _) => ownG own ok rf neg x y e2
      | _ => .no := rfl
theorem ownG_l (c : Nat) (fs : List (Str × D)) (q : D) (own : OwnT) (ok : List Nat) (rf neg : Bool) (e : Env) (F : List O → FRes) (h : own.lookup c = some F) (hy : okY ok (.im q) = true) : ownG own ok rf neg (.ins c fs) q e = (F [.im (.ins c fs), .im q]).ask neg e := by
  unfold ownG; rw [kls_ins]; dsimp only; rw [h]; dsimp only; rw [if_pos hy]
theorem ownG_r {p : D} {t : String} (hp : kls (.im p) = none) (ht : tyD p = some t) (hk : t ∈ kinds) (c : Nat) (fs : List (Str × D)) (own : OwnT) (ok : List Nat) (neg : Bool) (e : Env) (F : List O → FRes) (h : own.lookup c = some F) : ownG own ok true neg p (.ins c fs) e = (F [.im (.ins c fs), .im p]).ask false e := by
  unfold ownG; rw [hp]; dsimp only; rw [kls_ins]; dsimp only; rw [h]; dsimp only; rw [if_pos rfl, ht]; dsimp only; rw [if_pos hk]
/-! making, fields, methods -/
def FRes.mk (r : FRes) (ws : List (Option Nat)) (e : Env) : Res AO := match r with
  | .ok (.im .non) (o :: os') => .ok (.v o) (back ws os' e)
  | .er x (_ :: os') => .er x (back ws os' e)
  | _ => .no
@[simp] theorem mk_ok (o : O) (os : List O) (ws : List (Option Nat)) (e : Env) : (FRes.ok (.im .non) (o :: os)).mk ws e = .ok (.v o) (back ws os e) := rfl
@[simp] theorem mk_er (x : D) (o : O) (os : List O) (ws : List (Option Nat)) (e : Env) : (FRes.er x (o :: os)).mk ws e = .er x (back ws os e) := rfl
@[simp] theorem e_Make (c : Nat) (F : List O → FRes) (ms : List Md) (dv : List D) (g : Env → Res (List AO)) (e : Env) : fMake c F ms dv g e = (g e).bind fun as e1 => (Res.opt (pass ms as e1) e1).bind fun q _ => (F (.ob c [] [] :: (q.1 ++ dv.map O.im))).mk q.2.2 q.2.1 := by
  unfold fMake
  congr 1; funext as e1
  cases pass ms as e1 with
  | none => rfl
  | some q => obtain ⟨x, y, z⟩ := q; rfl
@[simp] theorem e_Guard (c : Nat) (m : Str) (f : Env → Res AO) (e : Env) : fGuard c m f e = (f e).bind fun a e1 => if insA c m (a.get e1) = true then .ok a e1 else .no := rfl
@[simp] theorem insA_ins (c c' : Nat) (m : Str) (fs : List (Str × D)) : insA c m (some (.im (.ins c' fs))) = (decide (c' = c) && (fs.lookup m).isNone) := rfl
@[simp] theorem insA_ob (c c' : Nat) (m : Str) (ns : List Str) (os : List O) : insA c m (some (.ob c' ns os)) = (decide (c' = c) && ((ns.zip os).lookup m).isNone) := rfl
def FRes.ne (r : FRes) : FRes := match r with
  | .ok o os => .ok o os
  | _ => .no
@[simp] theorem ne_ok (o : O) (os : List O) : (FRes.ok o os).ne = .ok o os := rfl
@[simp] theorem e_noEr (F : List O → FRes) (os : List O) : noEr F os = (F os).ne := by
  unfold noEr; cases F os <;> rfl
@[simp] theorem e_Fld (c : Nat) (f : Str) (fe : Env → Res AO) (e : Env) : fFld c f fe e = (fe e).bind fun a e1 => Res.opt (((a.get e1).bind (fldO c f)).map fun d => AO.v (.im d)) e1 := rfl
@[simp] theorem fldO_ins (c c' : Nat) (f : Str) (fs : List (Str × D)) : fldO c f (.im (.ins c' fs)) = if c' = c then fs.lookup f else none := rfl
@[simp] theorem fldO_ob (c c' : Nat) (f : Str) (ns : List Str) (os : List O) : fldO c f (.ob c' ns os) = if c' = c then ((ns.zip os).lookup f).bind imD else none := rfl
@[simp] theorem imD_im (d : D) : imD (.im d) = some d := rfl
def obO : O → Option (Nat × List Str × List O)
  | .ob c ns os => some (c, ns, os)
  | _ => none
@[simp] theorem obO_ob (c : Nat) (ns : List Str) (os : List O) : obO (.ob c ns os) = some (c, ns, os) := rfl
@[simp] theorem e_FldT (i c : Nat) (f : Str) (o : O) (e : Env) : sFldT i c f o e = (slotO e i).bind fun u => (obO u).bind fun q => if q.1 = c ∧ q.2.1.length < 1000 ∧ q.2.1.length = q.2.2.length then some (e.set i (some (.ob q.1 (putO f o q.2.1 q.2.2).1 (putO f o q.2.1 q.2.2).2))) else none := by
  unfold sFldT
  cases slotO e i with
  | none => rfl
  | some u => cases u <;> rfl
def two2 : List O → Option (O × O)
  | [x, y] => some (x, y)
  | _ => none
@[simp] theorem two2_2 (x y : O) : two2 [x, y] = some (x, y) := rfl
@[simp] theorem e_Par (i j : Nat) (g : Env → Res (List AO)) (e : Env) : fPar i j g e = (g e).on fun as e1 => (Res.opt (pass (List.replicate as.length .el) as e1) e1).on fun q _ => (Res.opt (two2 q.1) q.2.1).on fun z e2 => if i < e2.length ∧ j < e2.length then .nx ((e2.set i (some z.1)).set j (some z.2)) else .no := by
  unfold fPar
  cases g e with
  | no => rfl
  | er x e' => rfl
  | ok as e1 =>
    show (match pass (List.replicate as.length .el) as e1 with | some ([o1, o2], e2, _) => _ | _ => _) = _
    rw [ron_ok]
    cases pass (List.replicate as.length .el) as e1 with
    | none => rfl
    | some q =>
      obtain ⟨os, e2, ws⟩ := q
      match os with
      | [] => rfl
      | [_] => rfl
      | [_, _] => rfl
      | _ :: _ :: _ :: _ => rfl
@[simp] theorem e_Dict0 (e : Env) : fDict0 e = .ok (.v (.im (.dct []))) e := rfl
@[simp] theorem e_Call0 (F : List O → FRes) (e : Env) : fCall0 F e = match F [] with
  | .ok o _ => .ok (.v o) e
  | .er x _ => .er x e
  | .no => .no := rfl
@[simp] theorem o_rev (o : O) : oRev [o] = (lstD o).map fun ds => .ls (ds.reverse.map O.im) := rfl
theorem o_str {i : Int} (h : i.natAbs.log2 < 1920) : oStr [.im (.int i)] = some (.im (.str (toString i))) := if_pos h
/-! isinstance -/
@[simp] theorem isT_int (ok : List Nat) (b : String) (i : Int) : oIsT ok b [.im (.int i), .im (.ty b)] = some (.im (.bl (isTy "int" b))) := by simp [oIsT, tyO, tyD]
@[simp] theorem isT_bl (ok : List Nat) (b : String) (i : Bool) : oIsT ok b [.im (.bl i), .im (.ty b)] = some (.im (.bl (isTy "bool" b))) := by simp [oIsT, tyO, tyD]
@[simp] theorem isT_str (ok : List Nat) (b : String) (i : Str) : oIsT ok b [.im (.str i), .im (.ty b)] = some (.im (.bl (isTy "str" b))) := by simp [oIsT, tyO, tyD]
@[simp] theorem isT_non (ok : List Nat) (b : String) : oIsT ok b [.im .non, .im (.ty b)] = some (.im (.bl (isTy "NoneType" b))) := by simp [oIsT, tyO, tyD]
@[simp] theorem isT_lst (ok : List Nat) (b : String) (ds : List D) : oIsT ok b [.im (.lst ds), .im (.ty b)] = some (.im (.bl (isTy "list" b))) := by simp [oIsT, tyO, tyD]
@[simp] theorem isT_tup (ok : List Nat) (b : String) (ds : List D) : oIsT ok b [.im (.tup ds), .im (.ty b)] = some (.im (.bl (isTy "tuple" b))) := by simp [oIsT, tyO, tyD]
@[simp] theorem isT_ls (ok : List Nat) (b : String) (os : List O) : oIsT ok b [.ls os, .im (.ty b)] = some (.im (.bl (isTy "list" b))) := by simp [oIsT, tyO, tyD]
theorem isG_ins {ok okx : List Nat} {c : Nat} {up : List Nat} {k : Nat} {fs : List (Str × D)} (h : k ∈ ok) : oIsG ok okx c up [.im (.ins k fs), .im (.cls c)] = some (.im (.bl (decide (k ∈ up)))) := by simp [oIsG, excN, tyO, tyD, h]
theorem isG_ob {ok okx : List Nat} {c : Nat} {up : List Nat} {k : Nat} {ns : List Str} {os : List O} (h : k ∈ ok) : oIsG ok okx c up [.ob k ns os, .im (.cls c)] = some (.im (.bl (decide (k ∈ up)))) := by simp [oIsG, excN, tyO, kls, h]
theorem isG_data {ok okx : List Nat} {c : Nat} {up : List Nat} {d : D} {t : String} (h : tyD d = some t) (hk : t ∈ kinds) (hx : excN (.im d) = none) : oIsG ok okx c up [.im d, .im (.cls c)] = some (.im (.bl false)) := by
  have e : tyO (.im d) = some t := h
  simp [oIsG, hx, e, hk]
@[simp] theorem isG_ls {ok okx : List Nat} {c : Nat} {up : List Nat} {os : List O} : oIsG ok okx c up [.ls os, .im (.cls c)] = some (.im (.bl false)) := by simp [oIsG, excN, tyO]
/-! == -/
theorem eqO_eq {neg : Bool} {x y : O} {p q : PyData} (h1 : x.d.py = some p) (h2 : y.d.py = some q) (h3 : SeqAt.shaped p = true) (h4 : SeqAt.shaped q = true) : eqO neg [x, y] = some (.im (.bl (PyData.eqv p q != neg))) := by
  show (match x.d.py, y.d.py with | some p, some q => _ | _, _ => none) = _
  rw [h1, h2]
  show (if (SeqAt.shaped p && SeqAt.shaped q) = true then _ else _) = _
  rw [h3, h4]; rfl
@[simp] theorem eq_ii (neg : Bool) (i j : Int) : eqO neg [.im (.int i), .im (.int j)] = some (.im (.bl ((i == j) != neg))) := eqO_eq (p := .int i) (q := .int j) rfl rfl rfl rfl
@[simp] theorem eq_bb (neg : Bool) (i j : Bool) : eqO neg [.im (.bl i), .im (.bl j)] = some (.im (.bl ((i == j) != neg))) := eqO_eq (p := .bool i) (q := .bool j) rfl rfl rfl rfl
@[simp] theorem eq_ti (neg : Bool) (i j k l : Int) : eqO neg [.im (.tup [.int i, .int j]), .im (.tup [.int k, .int l])] = some (.im (.bl (((i == k) && (j == l)) != neg))) := by
  rw [eqO_eq (p := .tuple [.int i, .int j]) (q := .tuple [.int k, .int l]) rfl rfl rfl rfl]
  simp [PyData.eqv, PyData.eqvAll]
theorem ixN_k (n k : Nat) (h : k < n) : ixN n (k : Int) = some k := by
  unfold ixN
  rw [if_pos (by omega), if_pos (by omega)]
  simp
@[simp] theorem at_0 {α : Type} (x : α) (xs : List α) : atI (x :: xs) 0 = some x := by
  unfold atI; rw [show (0 : Int) = ((0 : Nat) : Int) from rfl, ixN_k _ _ (by simp)]; rfl
@[simp] theorem at_1 {α : Type} (x y : α) (xs : List α) : atI (x :: y :: xs) 1 = some y := by
  unfold atI; rw [show (1 : Int) = ((1 : Nat) : Int) from rfl, ixN_k _ _ (by simp)]; rfl
@[simp] theorem at_2 {α : Type} (x y z : α) (xs : List α) : atI (x :: y :: z :: xs) 2 = some z := by
  unfold atI; rw [show (2 : Int) = ((2 : Nat) : Int) from rfl, ixN_k _ _ (by simp)]; rfl
@[simp] theorem at_3 {α : Type} (x y z w : α) (xs : List α) : atI (x :: y :: z :: w :: xs) 3 = some w := by
  unfold atI; rw [show (3 : Int) = ((3 : Nat) : Int) from rfl, ixN_k _ _ (by simp)]; rfl
theorem at_k {α : Type} {xs : List α} {k : Nat} {x : α} (h : xs[k]? = some x) : atI xs (k : Int) = some x := by
  unfold atI
  rw [ixN_k _ _ (by rcases Nat.lt_or_ge k xs.length with z | z; exact z; rw [List.getElem?_eq_none z] at h; cases h)]
  exact h
@[simp] theorem ixN_0 (n : Nat) : ixN (n + 1) 0 = some 0 := ixN_k _ 0 (by omega)
@[simp] theorem ixN_1 (n : Nat) : ixN (n + 2) 1 = some 1 := ixN_k _ 1 (by omega)
@[simp] theorem ixN_2 (n : Nat) : ixN (n + 3) 2 = some 2 := ixN_k _ 2 (by omega)
@[simp] theorem sl_eq : sizeLine = 16777216 := by rw [sizeLine_eq]
@[simp] theorem sl_11 (o : O) (i j : Int) : sl11 [o, .im (.int i), .im (.int j)] = slO (some i) (some j) o := rfl
theorem cut_map (ns : List Int) (lo hi : Option Int) : ∃ ms : List Int, cutD (ns.map D.int) lo hi = ms.map D.int := by
  unfold cutD
  simp only [← List.map_drop, ← List.map_take, List.length_map]
  exact ⟨_, rfl⟩
theorem sl_scr (ns : List Int) (lo hi : Option Int) : ∃ ms : List Int, slO lo hi (.im (.scr ns)) = some (.ls ((ms.map D.int).map O.im)) := by
  obtain ⟨ms, h⟩ := cut_map ns lo hi
  exact ⟨ms, by show some (O.ls ((cutD (ns.map D.int) lo hi).map O.im)) = _; rw [h]⟩
theorem sum_ints (ms : List Int) : oSum [.ls ((ms.map D.int).map O.im)] = some (.im (.int ms.sum)) := by
  show (((allIm ((ms.map D.int).map O.im)).bind intsD).map _) = _
  rw [allIm_map]
  show (intsD (ms.map D.int)).map _ = _
  rw [intsD_map]
  rfl
@[simp] theorem itL_lst (ds : List D) : itL (.im (.lst ds)) = some ds := rfl
@[simp] theorem itT_tup (ds : List D) : itT (.im (.tup ds)) = some ds := rfl
@[simp] theorem all_ls (os : List O) : oAll [.ls os] = ((allIm os).bind boolsD).map fun bs => .im (.bl (bs.all id)) := by
  show (boolsO (.ls os)).map _ = _
  rfl
end PV

set_option Elab.async false
set_option linter.all false
set_option maxRecDepth 100000
set_option maxHeartbeats 4000000
namespace PV
open PySem L2
def topS (i : Nat) : Stmt := PySem.Challenge.pw_reissue_k30_rules_made_and_compared.main.body.getD i (.Pass ⟨0, 0, 0, 0⟩)
def clsS (i j : Nat) : Stmt := match topS i with
  | .ClassDef _ _ _ b _ _ _ _ _ _ _ => b.getD j (.Pass ⟨0, 0, 0, 0⟩)
  | _ => .Pass ⟨0, 0, 0, 0⟩
structure Txt (mg : Str → Option Value) (K : PySem.W.Frag) (pl : Nat → Addr) : Prop where
  b_all : mg "all" = none
  b_bool : mg "bool" = none
  b_int : mg "int" = none
  b_isinstance : mg "isinstance" = none
  b_len : mg "len" = none
  b_list : mg "list" = none
  b_max : mg "max" = none
  b_range : mg "range" = none
  b_repr : mg "repr" = none
  b_set : mg "set" = none
  b_sorted : mg "sorted" = none
  b_str : mg "str" = none
  b_sum : mg "sum" = none
  b_tuple : mg "tuple" = none
  cl_0 : Cls K (pl 0)
  cl_1 : Cls K (pl 1)
  cm : ∀ c ∈ ([0, 1] : List Nat), CmC K pl [0, 1] c
  ex_ReissueError : ∀ c ∈ ([3, 4] : List Nat), PySem.W.exmOne K (.ref (pl c)) (.ref (pl 2)) = some true
  g_Behavior : Glo mg ⟨K, pl⟩ "Behavior" (.cls 0)
  g_InvalidNumber : Glo mg ⟨K, pl⟩ "InvalidNumber" (.cls 4)
  g_Rule : Glo mg ⟨K, pl⟩ "Rule" (.cls 1)
  is_0 : IsX K pl [0, 1] [3, 4] 0 [0]
  is_1 : IsX K pl [0, 1] [3, 4] 1 [1]
  is_4 : IsX K pl [0, 1] [3, 4] 4 [4]
  isno : ∀ k ∈ ([0, 1] : List Nat), ∀ c ∈ ([0, 1] : List Nat), k ≠ c → PySem.W.kitOne K (.ref (pl k)) (.ref (pl c)) = some false
  isok : ∀ c ∈ ([0, 1] : List Nat), Isi K (pl c)
  k_0ISSUE : Kon K (pl 0) "ISSUE" ⟨K, pl⟩ (.int 0)
  na_0_events : NoAttr K (pl 0) "_events"
  na_0_heard : NoAttr K (pl 0) "_heard"
  na_0_links : NoAttr K (pl 0) "_links"
  na_0_opens : NoAttr K (pl 0) "_opens"
  na_1_turns : NoAttr K (pl 1) "_turns"
  na_1_wait : NoAttr K (pl 1) "_wait"
  x_ReissueError : mg "ReissueError" = some (.ref (pl 2))
  xf : ∀ c ∈ ([3, 4] : List Nat), XfC K (pl c)
  xn_value : ∀ c ∈ ([3, 4] : List Nat), PySem.W.findIn K (.ref (pl c)) "value" = some none
section
variable {P : Program} {w : World} {K : PySem.W.Frag} {mg : Str → Option Value} {base : Heap} {pl : Nat → Addr}
def bis_whole : Env → SRes := fRet [] (fAnd (fP (oIsT [0, 1] "int") (fCons (fN 0) (fCons (fC (.ty "int")) fNil))) (fNot (fP (oIsT [0, 1] "bool") (fCons (fN 0) (fCons (fC (.ty "bool")) fNil)))))
def Fis_whole : List O → FRes := fDef [] 0 bis_whole
theorem scis_whole : FnScope ["value"] ["value"] (defScope (topS 5)) := ⟨rfl, rfl, rfl, by decide +kernel, rfl, by decide +kernel, by decide +kernel⟩
theorem okis_whole {f : Addr} {fd : FuncData} (F : Fun K "is_whole" "is_whole" (topS 5) f fd) (T : Txt mg K pl) : FnG P w K mg base 1 f fd ["value"] (SpF ⟨K, pl⟩ 1 Fis_whole) := by
  refine def_ok (body := bis_whole) (B := []) (m := 0) F scis_whole rfl rfl fun cdv A outer s H E hr => ?_
  have nd := scis_whole.nd
  have tk := takes_of (X := cxOf (L2.CX P w) P w K mg base ["value"] "is_whole" (defScope (topS 5)) f cdv A outer s H E) (E := E) rfl rfl rfl rfl
  have po := passes_of (X := cxOf (L2.CX P w) P w K mg base ["value"] "is_whole" (defScope (topS 5)) f cdv A outer s H E) rfl
  exact (qs_one (qp_ret (px_and (x_isT [0, 1] (b := "int") (by decide) T.isok rfl T.b_isinstance (pl_cons (px_name 0) (pl_cons (px_tyN rfl T.b_int (by decide +kernel)) pl_nil))) (px_one (px_not (x_isT [0, 1] (b := "bool") (by decide) T.isok rfl T.b_isinstance (pl_cons (px_name 0) (pl_cons (px_tyN rfl T.b_bool (by decide +kernel)) pl_nil))))))))
def bis_at_least : Env → SRes := fRet [] (fAnd (fCall Fis_whole [.im] [] (fCons (fN 0) (fNil))) (f2 oGe (fN 0) (fN 1)))
def Fis_at_least : List O → FRes := fDef [] 0 bis_at_least
theorem scis_at_least : FnScope ["value", "low"] ["value", "low"] (defScope (topS 6)) := ⟨rfl, rfl, rfl, by decide +kernel, rfl, by decide +kernel, by decide +kernel⟩
theorem okis_at_least {f : Addr} {fd : FuncData} (F : Fun K "is_at_least" "is_at_least" (topS 6) f fd) (T : Txt mg K pl) (Dis_whole : Def P w ⟨K, pl⟩ mg base "is_whole" 1 1 Fis_whole) : FnG P w K mg base 2 f fd ["value", "low"] (SpF ⟨K, pl⟩ 2 Fis_at_least) := by
  refine def_ok (body := bis_at_least) (B := []) (m := 0) F scis_at_least rfl rfl fun cdv A outer s H E hr => ?_
  have nd := scis_at_least.nd
  have tk := takes_of (X := cxOf (L2.CX P w) P w K mg base ["value", "low"] "is_at_least" (defScope (topS 6)) f cdv A outer s H E) (E := E) rfl rfl rfl rfl
  have po := passes_of (X := cxOf (L2.CX P w) P w K mg base ["value", "low"] "is_at_least" (defScope (topS 6)) f cdv A outer s H E) rfl
  exact (qs_one (qp_ret (px_and (px_call [.im] Dis_whole (hr.mono (by decide)) tk rfl (pl_cons (px_name 0) pl_nil) (len_cons len_nil)) (px_one (x_ge (px_name 0) (px_name 1))))))
def bis_index : Env → SRes := fRet [] (fAnd (fCall Fis_at_least [.im, .im] [] (fCons (fN 0) (fCons (fC (.int 0)) (fNil)))) (f2 oLt (fN 0) (fN 1)))
def Fis_index : List O → FRes := fDef [] 0 bis_index
theorem scis_index : FnScope ["value", "size"] ["value", "size"] (defScope (topS 7)) := ⟨rfl, rfl, rfl, by decide +kernel, rfl, by decide +kernel, by decide +kernel⟩
theorem okis_index {f : Addr} {fd : FuncData} (F : Fun K "is_index" "is_index" (topS 7) f fd) (T : Txt mg K pl) (Dis_at_least : Def P w ⟨K, pl⟩ mg base "is_at_least" 2 2 Fis_at_least) : FnG P w K mg base 3 f fd ["value", "size"] (SpF ⟨K, pl⟩ 2 Fis_index) := by
  refine def_ok (body := bis_index) (B := []) (m := 0) F scis_index rfl rfl fun cdv A outer s H E hr => ?_
  have nd := scis_index.nd
  have tk := takes_of (X := cxOf (L2.CX P w) P w K mg base ["value", "size"] "is_index" (defScope (topS 7)) f cdv A outer s H E) (E := E) rfl rfl rfl rfl
  have po := passes_of (X := cxOf (L2.CX P w) P w K mg base ["value", "size"] "is_index" (defScope (topS 7)) f cdv A outer s H E) rfl
  exact (qs_one (qp_ret (px_and (px_call [.im, .im] Dis_at_least (hr.mono (by decide)) tk rfl (pl_cons (px_name 0) (pl_cons px_int pl_nil)) (len_cons (len_cons len_nil))) (px_one (x_lt (px_name 0) (px_name 1))))))
def b_is_port : Env → SRes := fSeq (fIfS (fOrT (fNotT (fTr (fP (oIsT [0, 1] "tuple") (fCons (fN 0) (fCons (fC (.ty "tuple")) fNil))))) (fTb (f2 (eqO true) (fP oLen (fCons (fN 0) (fNil))) (fC (.int 2))))) (fRet [] (fC (.bl false))) (fNx)) (fRet [] (fAnd (fCall Fis_index [.im, .im] [] (fCons (f2 ixO (fN 0) (fC (.int 0))) (fCons (fN 1) (fNil)))) (fCall Fis_at_least [.im, .im] [] (fCons (f2 ixO (fN 0) (fC (.int 1))) (fCons (fC (.int 0)) (fNil))))))
def F_is_port : List O → FRes := fDef [] 0 b_is_port
theorem sc_is_port : FnScope ["value", "events"] ["value", "events"] (defScope (topS 14)) := ⟨rfl, rfl, rfl, by decide +kernel, rfl, by decide +kernel, by decide +kernel⟩
theorem ok_is_port {f : Addr} {fd : FuncData} (F : Fun K "_is_port" "_is_port" (topS 14) f fd) (T : Txt mg K pl) (Dis_index : Def P w ⟨K, pl⟩ mg base "is_index" 3 2 Fis_index) (Dis_at_least : Def P w ⟨K, pl⟩ mg base "is_at_least" 2 2 Fis_at_least) : FnG P w K mg base 4 f fd ["value", "events"] (SpF ⟨K, pl⟩ 2 F_is_port) := by
  refine def_ok (body := b_is_port) (B := []) (m := 0) F sc_is_port rfl rfl fun cdv A outer s H E hr => ?_
  have nd := sc_is_port.nd
  have tk := takes_of (X := cxOf (L2.CX P w) P w K mg base ["value", "events"] "_is_port" (defScope (topS 14)) f cdv A outer s H E) (E := E) rfl rfl rfl rfl
  have po := passes_of (X := cxOf (L2.CX P w) P w K mg base ["value", "events"] "_is_port" (defScope (topS 14)) f cdv A outer s H E) rfl
  exact (qs_cons (qp_if (PW.pt (pw_or' (pt_not' (pt_any (x_isT [0, 1] (b := "tuple") (by decide) T.isok rfl T.b_isinstance (pl_cons (px_name 0) (pl_cons (px_tyN rfl T.b_tuple (by decide +kernel)) pl_nil))))) (pw_or1' (t_ne (u65 hr) (x_len T.b_len (pl_cons (px_name 0) pl_nil)) px_int)))) (qs_one (qp_ret px_bl)) qs_nil) (qs_one (qp_ret (px_and (px_call [.im, .im] Dis_index (hr.mono (by decide)) tk rfl (pl_cons (x_ix (px_name 0) px_int) (pl_cons (px_name 1) pl_nil)) (len_cons (len_cons len_nil))) (px_one (px_call [.im, .im] Dis_at_least (hr.mono (by decide)) tk rfl (pl_cons (x_ix (px_name 0) px_int) (pl_cons px_int pl_nil)) (len_cons (len_cons len_nil))))))))
def w_are_ports_0 : Env → Res AO := fCall F_is_port [.im, .im] [] (fCons (fN 2) (fCons (fN 1) (fNil)))
def b_are_ports : Env → SRes := fSeq (fIfS (fOrT (fNotT (fTr (fP (oIsT [0, 1] "list") (fCons (fN 0) (fCons (fC (.ty "list")) fNil))))) (fNotT (fTr (fP oAll (fCons (fLcOn itL [2] (sName 2) (fYes) (fN 0) (w_are_ports_0)) (fNil)))))) (fRet [] (fC (.bl false))) (fNx)) (fRet [] (f2 (eqO false) (fP oLS (fCons (fN 0) (fNil))) (fP oLen (fCons (fN 0) (fNil)))))
def F_are_ports : List O → FRes := fDef [] 1 b_are_ports
theorem sc_are_ports : FnScope ["value", "events", "row"] ["value", "events"] (defScope (topS 13)) := ⟨rfl, rfl, rfl, by decide +kernel, rfl, by decide +kernel, by decide +kernel⟩
theorem ok_are_ports {f : Addr} {fd : FuncData} (F : Fun K "_are_ports" "_are_ports" (topS 13) f fd) (T : Txt mg K pl) (D_is_port : Def P w ⟨K, pl⟩ mg base "_is_port" 4 2 F_is_port) : FnG P w K mg base 5 f fd ["value", "events"] (SpF ⟨K, pl⟩ 2 F_are_ports) := by
  refine def_ok (body := b_are_ports) (B := []) (m := 1) F sc_are_ports rfl rfl fun cdv A outer s H E hr => ?_
  have nd := sc_are_ports.nd
  have tk := takes_of (X := cxOf (L2.CX P w) P w K mg base ["value", "events", "row"] "_are_ports" (defScope (topS 13)) f cdv A outer s H E) (E := E) rfl rfl rfl rfl
  have po := passes_of (X := cxOf (L2.CX P w) P w K mg base ["value", "events", "row"] "_are_ports" (defScope (topS 13)) f cdv A outer s H E) rfl
  exact (qs_cons (qp_if (PW.pt (pw_or' (pt_not' (pt_any (x_isT [0, 1] (b := "list") (by decide) T.isok rfl T.b_isinstance (pl_cons (px_name 0) (pl_cons (px_tyN rfl T.b_list (by decide +kernel)) pl_nil))))) (pw_or1' (pt_not' (pt_any (x_all rfl T.b_all (pl_cons (px_lcL (own := [("row", 2)]) rfl nd (px_name 0) (blkOk_by (show blkC ["value", "events", "row"] (defScope (topS 13)) _ _ = true by decide +kernel)) (fun _ _ _ _ _ => (pg_name nd rfl (by first | exact Or.inl rfl | exact Or.inr rfl))) (tgw_name (by decide)) (fun _ _ _ _ _ => pts_yes) (fun _ _ _ _ _ => (px_call [.im, .im] D_is_port (hr.mono (by decide)) takes0 rfl (pl_cons (px_name 2) (pl_cons (px_name 1) pl_nil)) (len_cons (len_cons len_nil))))) pl_nil))))))) (qs_one (qp_ret px_bl)) qs_nil) (qs_one (qp_ret (x_eq (u65 hr) (x_LS rfl (u65 hr) T.b_len T.b_set (pl_cons (px_name 0) pl_nil)) (x_len T.b_len (pl_cons (px_name 0) pl_nil))))))
def b_is_link : Env → SRes := fSeq (fIfS (fOrT (fNotT (fTr (fP (oIsT [0, 1] "tuple") (fCons (fN 0) (fCons (fC (.ty "tuple")) fNil))))) (fTb (f2 (eqO true) (fP oLen (fCons (fN 0) (fNil))) (fC (.int 5))))) (fRet [] (fC (.bl false))) (fNx)) (fSeq (fAsg (fN 0) (sTup 5 (sCons (sName 2) (sCons (sName 3) (sCons (sName 4) (sCons (sName 5) (sCons (sName 6) (sNil)))))))) (fSeq (fIfS (fOrT (fNotT (fTr (fCall Fis_index [.im, .im] [] (fCons (fN 2) (fCons (fN 1) (fNil)))))) (fOrT (fNotT (fTr (fCall Fis_index [.im, .im] [] (fCons (fN 3) (fCons (fN 1) (fNil)))))) (fTb (f2 (eqO false) (fN 3) (fC (.int 0)))))) (fRet [] (fC (.bl false))) (fNx)) (fRet [] (fAnd (fCall Fis_at_least [.im, .im] [] (fCons (fN 4) (fCons (fC (.int 0)) (fNil)))) (fAnd (fOr (f2 (oIsN false) (fN 5) (fC .non)) (fCall Fis_at_least [.im, .im] [] (fCons (fN 5) (fCons (fN 4) (fNil))))) (fP (oIsT [0, 1] "bool") (fCons (fN 6) (fCons (fC (.ty "bool")) fNil))))))))
def F_is_link : List O → FRes := fDef [] 5 b_is_link
theorem sc_is_link : FnScope ["value", "events", "cause", "effect", "least", "most", "many"] ["value", "events"] (defScope (topS 12)) := ⟨rfl, rfl, rfl, by decide +kernel, rfl, by decide +kernel, by decide +kernel⟩
theorem ok_is_link {f : Addr} {fd : FuncData} (F : Fun K "_is_link" "_is_link" (topS 12) f fd) (T : Txt mg K pl) (Dis_at_least : Def P w ⟨K, pl⟩ mg base "is_at_least" 2 2 Fis_at_least) (Dis_index : Def P w ⟨K, pl⟩ mg base "is_index" 3 2 Fis_index) : FnG P w K mg base 4 f fd ["value", "events"] (SpF ⟨K, pl⟩ 2 F_is_link) := by
  refine def_ok (body := b_is_link) (B := []) (m := 5) F sc_is_link rfl rfl fun cdv A outer s H E hr => ?_
  have nd := sc_is_link.nd
  have tk := takes_of (X := cxOf (L2.CX P w) P w K mg base ["value", "events", "cause", "effect", "least", "most", "many"] "_is_link" (defScope (topS 12)) f cdv A outer s H E) (E := E) rfl rfl rfl rfl
  have po := passes_of (X := cxOf (L2.CX P w) P w K mg base ["value", "events", "cause", "effect", "least", "most", "many"] "_is_link" (defScope (topS 12)) f cdv A outer s H E) rfl
  exact (qs_cons (qp_if (PW.pt (pw_or' (pt_not' (pt_any (x_isT [0, 1] (b := "tuple") (by decide) T.isok rfl T.b_isinstance (pl_cons (px_name 0) (pl_cons (px_tyN rfl T.b_tuple (by decide +kernel)) pl_nil))))) (pw_or1' (t_ne (u65 hr) (x_len T.b_len (pl_cons (px_name 0) pl_nil)) px_int)))) (qs_one (qp_ret px_bl)) qs_nil) (qs_cons (qp_asg (tg_tup (tgs_cons (tg_name (by decide)) (tgs_cons (tg_name (by decide)) (tgs_cons (tg_name (by decide)) (tgs_cons (tg_name (by decide)) (tgs_cons (tg_name (by decide)) tgs_nil)))))) (px_name 0) (pg_tup rfl (pgs_cons (pg_name nd rfl (by first | exact Or.inl rfl | exact Or.inr rfl)) (pgs_cons (pg_name nd rfl (by first | exact Or.inl rfl | exact Or.inr rfl)) (pgs_cons (pg_name nd rfl (by first | exact Or.inl rfl | exact Or.inr rfl)) (pgs_cons (pg_name nd rfl (by first | exact Or.inl rfl | exact Or.inr rfl)) (pgs_cons (pg_name nd rfl (by first | exact Or.inl rfl | exact Or.inr rfl)) pgs_nil))))))) (qs_cons (qp_if (PW.pt (pw_or' (pt_not' (pt_any (px_call [.im, .im] Dis_index (hr.mono (by decide)) tk rfl (pl_cons (px_name 2) (pl_cons (px_name 1) pl_nil)) (len_cons (len_cons len_nil))))) (pw_or' (pt_not' (pt_any (px_call [.im, .im] Dis_index (hr.mono (by decide)) tk rfl (pl_cons (px_name 3) (pl_cons (px_name 1) pl_nil)) (len_cons (len_cons len_nil))))) (pw_or1' (t_eq (u65 hr) (px_name 3) (px_kon T.g_Behavior rfl T.k_0ISSUE)))))) (qs_one (qp_ret px_bl)) qs_nil) (qs_one (qp_ret (px_and (px_call [.im, .im] Dis_at_least (hr.mono (by decide)) tk rfl (pl_cons (px_name 4) (pl_cons px_int pl_nil)) (len_cons (len_cons len_nil))) (px_and (px_or (x_isN (px_name 5) px_non) (px_one (px_call [.im, .im] Dis_at_least (hr.mono (by decide)) tk rfl (pl_cons (px_name 5) (pl_cons (px_name 4) pl_nil)) (len_cons (len_cons len_nil))))) (px_one (x_isT [0, 1] (b := "bool") (by decide) T.isok rfl T.b_isinstance (pl_cons (px_name 6) (pl_cons (px_tyN rfl T.b_bool (by decide +kernel)) pl_nil)))))))))))
def w_fit_0 : Env → Res AO := fCall F_is_link [.im, .im] [] (fCons (fN 4) (fCons (fN 0) (fNil)))
def b_fit : Env → SRes := fSeq (fIfS (fOrT (fNotT (fTr (fCall Fis_at_least [.im, .im] [] (fCons (fN 0) (fCons (fC (.int 2)) (fNil)))))) (fNotT (fTr (fP (oIsT [0, 1] "list") (fCons (fN 1) (fCons (fC (.ty "list")) fNil)))))) (fRet [] (fC (.bl false))) (fNx)) (fRet [] (fAnd (fP oAll (fCons (fLcOn itL [4] (sName 4) (fYes) (fN 1) (w_fit_0)) (fNil))) (fAnd (fCall F_are_ports [.im, .im] [] (fCons (fN 2) (fCons (fN 0) (fNil)))) (fCall F_are_ports [.im, .im] [] (fCons (fN 3) (fCons (fN 0) (fNil)))))))
def F_fit : List O → FRes := fDef [] 1 b_fit
theorem sc_fit : FnScope ["events", "links", "heard", "opens", "link"] ["events", "links", "heard", "opens"] (defScope (topS 11)) := ⟨rfl, rfl, rfl, by decide +kernel, rfl, by decide +kernel, by decide +kernel⟩
theorem ok_fit {f : Addr} {fd : FuncData} (F : Fun K "_fit" "_fit" (topS 11) f fd) (T : Txt mg K pl) (D_is_link : Def P w ⟨K, pl⟩ mg base "_is_link" 4 2 F_is_link) (D_are_ports : Def P w ⟨K, pl⟩ mg base "_are_ports" 5 2 F_are_ports) (Dis_at_least : Def P w ⟨K, pl⟩ mg base "is_at_least" 2 2 Fis_at_least) : FnG P w K mg base 6 f fd ["events", "links", "heard", "opens"] (SpF ⟨K, pl⟩ 4 F_fit) := by
  refine def_ok (body := b_fit) (B := []) (m := 1) F sc_fit rfl rfl fun cdv A outer s H E hr => ?_
  have nd := sc_fit.nd
  have tk := takes_of (X := cxOf (L2.CX P w) P w K mg base ["events", "links", "heard", "opens", "link"] "_fit" (defScope (topS 11)) f cdv A outer s H E) (E := E) rfl rfl rfl rfl
  have po := passes_of (X := cxOf (L2.CX P w) P w K mg base ["events", "links", "heard", "opens", "link"] "_fit" (defScope (topS 11)) f cdv A outer s H E) rfl
  exact (qs_cons (qp_if (PW.pt (pw_or' (pt_not' (pt_any (px_call [.im, .im] Dis_at_least (hr.mono (by decide)) tk rfl (pl_cons (px_name 0) (pl_cons px_int pl_nil)) (len_cons (len_cons len_nil))))) (pw_or1' (pt_not' (pt_any (x_isT [0, 1] (b := "list") (by decide) T.isok rfl T.b_isinstance (pl_cons (px_name 1) (pl_cons (px_tyN rfl T.b_list (by decide +kernel)) pl_nil)))))))) (qs_one (qp_ret px_bl)) qs_nil) (qs_one (qp_ret (px_and (x_all rfl T.b_all (pl_cons (px_lcL (own := [("link", 4)]) rfl nd (px_name 1) (blkOk_by (show blkC ["events", "links", "heard", "opens", "link"] (defScope (topS 11)) _ _ = true by decide +kernel)) (fun _ _ _ _ _ => (pg_name nd rfl (by first | exact Or.inl rfl | exact Or.inr rfl))) (tgw_name (by decide)) (fun _ _ _ _ _ => pts_yes) (fun _ _ _ _ _ => (px_call [.im, .im] D_is_link (hr.mono (by decide)) takes0 rfl (pl_cons (px_name 4) (pl_cons (px_name 0) pl_nil)) (len_cons (len_cons len_nil))))) pl_nil)) (px_and (px_call [.im, .im] D_are_ports (hr.mono (by decide)) tk rfl (pl_cons (px_name 2) (pl_cons (px_name 0) pl_nil)) (len_cons (len_cons len_nil))) (px_one (px_call [.im, .im] D_are_ports (hr.mono (by decide)) tk rfl (pl_cons (px_name 3) (pl_cons (px_name 0) pl_nil)) (len_cons (len_cons len_nil)))))))))
def b_Behavior___init__ : Env → SRes := fSeq (fIfS (fNotT (fTr (fCall F_fit [.im, .im, .im, .im] [] (fCons (fN 1) (fCons (fN 2) (fCons (fN 3) (fCons (fN 4) (fNil)))))))) (fRaise 3 "value" (fTup (fCons (fN 1) (fCons (fN 2) (fCons (fN 3) (fCons (fN 4) (fNil))))))) (fNx)) (fSeq (fAsg (fN 1) (sFldT 0 0 "_events")) (fSeq (fAsg (fP oList (fCons (fN 2) (fNil))) (sFldT 0 0 "_links")) (fSeq (fAsg (fP oSS (fCons (fN 3) (fNil))) (sFldT 0 0 "_heard")) (fAsg (fP oSS (fCons (fN 4) (fNil))) (sFldT 0 0 "_opens")))))
def F_Behavior___init__ : List O → FRes := fDef [0] 0 b_Behavior___init__
theorem sc_Behavior___init__ : FnScope ["self", "events", "links", "heard", "opens"] ["self", "events", "links", "heard", "opens"] (defScope (clsS 10 2)) := ⟨rfl, rfl, rfl, by decide +kernel, rfl, by decide +kernel, by decide +kernel⟩
theorem ok_Behavior___init__ {f : Addr} {fd : FuncData} (F : Fun K "__init__" "Behavior.__init__" (clsS 10 2) f fd) (T : Txt mg K pl) (D_fit : Def P w ⟨K, pl⟩ mg base "_fit" 6 4 F_fit) (DX_InvalidBehavior : XKl P w ⟨K, pl⟩ mg base "InvalidBehavior" 3 "value") : FnG P w K mg base 7 f fd ["self", "events", "links", "heard", "opens"] (SpF ⟨K, pl⟩ 5 F_Behavior___init__) := by
  refine def_ok (body := b_Behavior___init__) (B := [0]) (m := 0) F sc_Behavior___init__ rfl rfl fun cdv A outer s H E hr => ?_
  have nd := sc_Behavior___init__.nd
  have tk := takes_of (X := cxOf (L2.CX P w) P w K mg base ["self", "events", "links", "heard", "opens"] "Behavior.__init__" (defScope (clsS 10 2)) f cdv A outer s H E) (E := E) rfl rfl rfl rfl
  have po := passes_of (X := cxOf (L2.CX P w) P w K mg base ["self", "events", "links", "heard", "opens"] "Behavior.__init__" (defScope (clsS 10 2)) f cdv A outer s H E) rfl
  exact (qs_cons (qp_if (pt_not' (pt_any (px_call [.im, .im, .im, .im] D_fit (hr.mono (by decide)) tk rfl (pl_cons (px_name 1) (pl_cons (px_name 2) (pl_cons (px_name 3) (pl_cons (px_name 4) pl_nil)))) (len_cons (len_cons (len_cons (len_cons len_nil))))))) (qs_one (qp_raise DX_InvalidBehavior rfl (hr.mono (by decide)) tk rfl (px_tup (pl_cons (px_name 1) (pl_cons (px_name 2) (pl_cons (px_name 3) (pl_cons (px_name 4) pl_nil))))))) qs_nil) (qs_cons (qp_fld 0 0 T.cl_0 T.na_0_events (px_name 0) (px_name 1)) (qs_cons (qp_fld 0 0 T.cl_0 T.na_0_links (px_name 0) (x_list T.b_list (pl_cons (px_name 2) pl_nil))) (qs_cons (qp_fld 0 0 T.cl_0 T.na_0_heard (px_name 0) (x_SS rfl (u65 hr) T.b_sorted T.b_set (pl_cons (px_name 3) pl_nil))) (qs_one (qp_fld 0 0 T.cl_0 T.na_0_opens (px_name 0) (x_SS rfl (u65 hr) T.b_sorted T.b_set (pl_cons (px_name 4) pl_nil))))))))
def bcheck_at_least : Env → SRes := fIfS (fNotT (fTr (fCall Fis_at_least [.im, .im] [] (fCons (fN 0) (fCons (fN 1) (fNil)))))) (fRaise 4 "value" (fN 0)) (fNx)
def Fcheck_at_least : List O → FRes := fDef [] 0 bcheck_at_least
theorem sccheck_at_least : FnScope ["value", "low"] ["value", "low"] (defScope (topS 8)) := ⟨rfl, rfl, rfl, by decide +kernel, rfl, by decide +kernel, by decide +kernel⟩
theorem okcheck_at_least {f : Addr} {fd : FuncData} (F : Fun K "check_at_least" "check_at_least" (topS 8) f fd) (T : Txt mg K pl) (Dis_at_least : Def P w ⟨K, pl⟩ mg base "is_at_least" 2 2 Fis_at_least) (DX_InvalidNumber : XKl P w ⟨K, pl⟩ mg base "InvalidNumber" 4 "value") : FnG P w K mg base 3 f fd ["value", "low"] (SpF ⟨K, pl⟩ 2 Fcheck_at_least) := by
  refine def_ok (body := bcheck_at_least) (B := []) (m := 0) F sccheck_at_least rfl rfl fun cdv A outer s H E hr => ?_
  have nd := sccheck_at_least.nd
  have tk := takes_of (X := cxOf (L2.CX P w) P w K mg base ["value", "low"] "check_at_least" (defScope (topS 8)) f cdv A outer s H E) (E := E) rfl rfl rfl rfl
  have po := passes_of (X := cxOf (L2.CX P w) P w K mg base ["value", "low"] "check_at_least" (defScope (topS 8)) f cdv A outer s H E) rfl
  exact (qs_one (qp_if (pt_not' (pt_any (px_call [.im, .im] Dis_at_least (hr.mono (by decide)) tk rfl (pl_cons (px_name 0) (pl_cons (px_name 1) pl_nil)) (len_cons (len_cons len_nil))))) (qs_one (qp_raise DX_InvalidNumber rfl (hr.mono (by decide)) tk rfl (px_name 0))) qs_nil))
def b_Rule___init__ : Env → SRes := fSeq (fDrop (fCall Fcheck_at_least [.im, .im] [] (fCons (fN 1) (fCons (fC (.int 0)) (fNil))))) (fSeq (fDrop (fCall Fcheck_at_least [.im, .im] [] (fCons (fN 2) (fCons (fC (.int 1)) (fNil))))) (fSeq (fAsg (fN 1) (sFldT 0 1 "_wait")) (fAsg (fN 2) (sFldT 0 1 "_turns"))))
def F_Rule___init__ : List O → FRes := fDef [0] 0 b_Rule___init__
theorem sc_Rule___init__ : FnScope ["self", "wait", "turns"] ["self", "wait", "turns"] (defScope (clsS 16 0)) := ⟨rfl, rfl, rfl, by decide +kernel, rfl, by decide +kernel, by decide +kernel⟩
theorem ok_Rule___init__ {f : Addr} {fd : FuncData} (F : FunD K "__init__" "Rule.__init__" (defArgs (clsS 16 0)) (defBody (clsS 16 0)) (defScope (clsS 16 0)) [V.int 1] [] f fd) (T : Txt mg K pl) (Dcheck_at_least : Def P w ⟨K, pl⟩ mg base "check_at_least" 3 2 Fcheck_at_least) : FnG P w K mg base 4 f fd ["self", "wait", "turns"] (SpF ⟨K, pl⟩ 3 F_Rule___init__) := by
  refine def_okD (body := b_Rule___init__) (B := [0]) (m := 0) F sc_Rule___init__ rfl rfl fun cdv A outer s H E hr => ?_
  have nd := sc_Rule___init__.nd
  have tk := takes_of (X := cxOf (L2.CX P w) P w K mg base ["self", "wait", "turns"] "Rule.__init__" (defScope (clsS 16 0)) f cdv A outer s H E) (E := E) rfl rfl rfl rfl
  have po := passes_of (X := cxOf (L2.CX P w) P w K mg base ["self", "wait", "turns"] "Rule.__init__" (defScope (clsS 16 0)) f cdv A outer s H E) rfl
  exact (qs_cons (qp_expr (px_call [.im, .im] Dcheck_at_least (hr.mono (by decide)) tk rfl (pl_cons (px_name 1) (pl_cons px_int pl_nil)) (len_cons (len_cons len_nil)))) (qs_cons (qp_expr (px_call [.im, .im] Dcheck_at_least (hr.mono (by decide)) tk rfl (pl_cons (px_name 2) (pl_cons px_int pl_nil)) (len_cons (len_cons len_nil)))) (qs_cons (qp_fld 0 1 T.cl_1 T.na_1_wait (px_name 0) (px_name 1)) (qs_one (qp_fld 0 1 T.cl_1 T.na_1_turns (px_name 0) (px_name 2))))))
def b_Behavior___eq__ : Env → SRes := fRet [] (fAnd (fP (oIsG [0, 1] [3, 4] 0 [0]) (fCons (fN 1) (fCons (fC (.cls 0)) fNil))) (fAnd (f2 (eqO false) (fFld 0 "_events" (fN 0)) (fFld 0 "_events" (fN 1))) (fAnd (f2 (eqO false) (fFld 0 "_links" (fN 0)) (fFld 0 "_links" (fN 1))) (fAnd (f2 (eqO false) (fFld 0 "_heard" (fN 0)) (fFld 0 "_heard" (fN 1))) (f2 (eqO false) (fFld 0 "_opens" (fN 0)) (fFld 0 "_opens" (fN 1)))))))
def F_Behavior___eq__ : List O → FRes := fDef [] 0 b_Behavior___eq__
theorem sc_Behavior___eq__ : FnScope ["self", "other"] ["self", "other"] (defScope (clsS 10 7)) := ⟨rfl, rfl, rfl, by decide +kernel, rfl, by decide +kernel, by decide +kernel⟩
theorem ok_Behavior___eq__ {f : Addr} {fd : FuncData} (F : Fun K "__eq__" "Behavior.__eq__" (clsS 10 7) f fd) (T : Txt mg K pl) : FnG P w K mg base 1 f fd ["self", "other"] (SpF ⟨K, pl⟩ 2 F_Behavior___eq__) := by
  refine def_ok (body := b_Behavior___eq__) (B := []) (m := 0) F sc_Behavior___eq__ rfl rfl fun cdv A outer s H E hr => ?_
  have nd := sc_Behavior___eq__.nd
  have tk := takes_of (X := cxOf (L2.CX P w) P w K mg base ["self", "other"] "Behavior.__eq__" (defScope (clsS 10 7)) f cdv A outer s H E) (E := E) rfl rfl rfl rfl
  have po := passes_of (X := cxOf (L2.CX P w) P w K mg base ["self", "other"] "Behavior.__eq__" (defScope (clsS 10 7)) f cdv A outer s H E) rfl
  exact (qs_one (qp_ret (px_and (x_isG [0, 1] [3, 4] T.is_0 rfl T.b_isinstance (pl_cons (px_name 1) (pl_cons (px_gl T.g_Behavior rfl) pl_nil))) (px_and (x_eq (u65 hr) (px_fld 0 T.cl_0 T.na_0_events (px_name 0)) (px_fld 0 T.cl_0 T.na_0_events (px_name 1))) (px_and (x_eq (u65 hr) (px_fld 0 T.cl_0 T.na_0_links (px_name 0)) (px_fld 0 T.cl_0 T.na_0_links (px_name 1))) (px_and (x_eq (u65 hr) (px_fld 0 T.cl_0 T.na_0_heard (px_name 0)) (px_fld 0 T.cl_0 T.na_0_heard (px_name 1))) (px_one (x_eq (u65 hr) (px_fld 0 T.cl_0 T.na_0_opens (px_name 0)) (px_fld 0 T.cl_0 T.na_0_opens (px_name 1))))))))))
def b_Rule___eq__ : Env → SRes := fRet [] (fAnd (fP (oIsG [0, 1] [3, 4] 1 [1]) (fCons (fN 1) (fCons (fC (.cls 1)) fNil))) (fAnd (f2 (eqO false) (fFld 1 "_wait" (fN 0)) (fFld 1 "_wait" (fN 1))) (f2 (eqO false) (fFld 1 "_turns" (fN 0)) (fFld 1 "_turns" (fN 1)))))
def F_Rule___eq__ : List O → FRes := fDef [] 0 b_Rule___eq__
theorem sc_Rule___eq__ : FnScope ["self", "other"] ["self", "other"] (defScope (clsS 16 3)) := ⟨rfl, rfl, rfl, by decide +kernel, rfl, by decide +kernel, by decide +kernel⟩
theorem ok_Rule___eq__ {f : Addr} {fd : FuncData} (F : Fun K "__eq__" "Rule.__eq__" (clsS 16 3) f fd) (T : Txt mg K pl) : FnG P w K mg base 1 f fd ["self", "other"] (SpF ⟨K, pl⟩ 2 F_Rule___eq__) := by
  refine def_ok (body := b_Rule___eq__) (B := []) (m := 0) F sc_Rule___eq__ rfl rfl fun cdv A outer s H E hr => ?_
  have nd := sc_Rule___eq__.nd
  have tk := takes_of (X := cxOf (L2.CX P w) P w K mg base ["self", "other"] "Rule.__eq__" (defScope (clsS 16 3)) f cdv A outer s H E) (E := E) rfl rfl rfl rfl
  have po := passes_of (X := cxOf (L2.CX P w) P w K mg base ["self", "other"] "Rule.__eq__" (defScope (clsS 16 3)) f cdv A outer s H E) rfl
  exact (qs_one (qp_ret (px_and (x_isG [0, 1] [3, 4] T.is_1 rfl T.b_isinstance (pl_cons (px_name 1) (pl_cons (px_gl T.g_Rule rfl) pl_nil))) (px_and (x_eq (u65 hr) (px_fld 1 T.cl_1 T.na_1_wait (px_name 0)) (px_fld 1 T.cl_1 T.na_1_wait (px_name 1))) (px_one (x_eq (u65 hr) (px_fld 1 T.cl_1 T.na_1_turns (px_name 0)) (px_fld 1 T.cl_1 T.na_1_turns (px_name 1))))))))
def b_law_shown : Env → SRes := fRet [] (fIf (fOrT (fTr (fP (oIsG [0, 1] [3, 4] 1 [1]) (fCons (fN 0) (fCons (fC (.cls 1)) fNil)))) (fTr (fP (oIsG [0, 1] [3, 4] 0 [0]) (fCons (fN 0) (fCons (fC (.cls 0)) fNil))))) (fN 0) (fP oRepr (fCons (fN 0) (fNil))))
def F_law_shown : List O → FRes := fDef [] 0 b_law_shown
theorem sc_law_shown : FnScope ["_law_value"] ["_law_value"] (defScope (topS 23)) := ⟨rfl, rfl, rfl, by decide +kernel, rfl, by decide +kernel, by decide +kernel⟩
theorem ok_law_shown {f : Addr} {fd : FuncData} (F : Fun K "_law_shown" "_law_shown" (topS 23) f fd) (T : Txt mg K pl) : FnG P w K mg base 2 f fd ["_law_value"] (SpF ⟨K, pl⟩ 1 F_law_shown) := by
  refine def_ok (body := b_law_shown) (B := []) (m := 0) F sc_law_shown rfl rfl fun cdv A outer s H E hr => ?_
  have nd := sc_law_shown.nd
  have tk := takes_of (X := cxOf (L2.CX P w) P w K mg base ["_law_value"] "_law_shown" (defScope (topS 23)) f cdv A outer s H E) (E := E) rfl rfl rfl rfl
  have po := passes_of (X := cxOf (L2.CX P w) P w K mg base ["_law_value"] "_law_shown" (defScope (topS 23)) f cdv A outer s H E) rfl
  exact (qs_one (qp_ret (px_if (PW.pt (pw_or' (pt_any (x_isG [0, 1] [3, 4] T.is_1 rfl T.b_isinstance (pl_cons (px_name 0) (pl_cons (px_gl T.g_Rule rfl) pl_nil)))) (pw_or1' (pt_any (x_isG [0, 1] [3, 4] T.is_0 rfl T.b_isinstance (pl_cons (px_name 0) (pl_cons (px_gl T.g_Behavior rfl) pl_nil))))))) (px_name 0) (x_repr (hr.mono (by decide)) T.b_repr (pl_cons (px_name 0) pl_nil)))))
def ownEq : OwnT := [(0, F_Behavior___eq__), (1, F_Rule___eq__)]
theorem in_ownEq : ∀ p ∈ ownEq, p.1 ∈ ([0, 1] : List Nat) := by
  intro p hp
  simp only [ownEq, List.mem_cons, List.not_mem_nil, or_false] at hp
  rcases hp with rfl | rfl <;> simp
def b_law_caught : Env → SRes := fSeq (fAsg (fC .non) (sName 3)) (fSeq (fTry 4 3 [3, 4] (fIfS (fTb (fCmpO (eqO false) ownEq [0, 1] true false (fN 0) (fC (.int 0)))) (fDrop (fMake 1 F_Rule___init__ [.im, .im] [] (fCons (fN 1) (fCons (fN 2) (fNil))))) (fDrop (fMake 1 F_Rule___init__ [.im] [.int 1] (fCons (fN 1) (fNil)))))) (fRet [] (fIf (fTr (fP (oIsG [0, 1] [3, 4] 4 [4]) (fCons (fN 3) (fCons (fC (.cls 4)) fNil)))) (fCall F_law_shown [.im] [] (fCons (fXf [3, 4] "value" (fN 3)) (fNil))) (fC .non))))
def F_law_caught : List O → FRes := fDef [] 2 b_law_caught
theorem sc_law_caught : FnScope ["_law_way", "_law_first", "_law_second", "_law_caught_here", "e"] ["_law_way", "_law_first", "_law_second"] (defScope (topS 28)) := ⟨rfl, rfl, rfl, by decide +kernel, rfl, by decide +kernel, by decide +kernel⟩
theorem ok_law_caught {f : Addr} {fd : FuncData} (F : Fun K "_law_caught" "_law_caught" (topS 28) f fd) (T : Txt mg K pl) (D_law_shown : Def P w ⟨K, pl⟩ mg base "_law_shown" 2 1 F_law_shown) (D_Behavior___eq__ : Mth P w ⟨K, pl⟩ mg base 0 "__eq__" 1 1 F_Behavior___eq__) (D_Rule___eq__ : Mth P w ⟨K, pl⟩ mg base 1 "__eq__" 1 1 F_Rule___eq__) (D_Rule___init__ : Kls P w ⟨K, pl⟩ mg base "Rule" 1 4 2 [] F_Rule___init__) (D_Rule___init___1 : Kls P w ⟨K, pl⟩ mg base "Rule" 1 4 1 [.int 1] F_Rule___init__) : FnG P w K mg base 6 f fd ["_law_way", "_law_first", "_law_second"] (SpF ⟨K, pl⟩ 3 F_law_caught) := by
  refine def_ok (body := b_law_caught) (B := []) (m := 2) F sc_law_caught rfl rfl fun cdv A outer s H E hr => ?_
  have nd := sc_law_caught.nd
  have tk := takes_of (X := cxOf (L2.CX P w) P w K mg base ["_law_way", "_law_first", "_law_second", "_law_caught_here", "e"] "_law_caught" (defScope (topS 28)) f cdv A outer s H E) (E := E) rfl rfl rfl rfl
  have po := passes_of (X := cxOf (L2.CX P w) P w K mg base ["_law_way", "_law_first", "_law_second", "_law_caught_here", "e"] "_law_caught" (defScope (topS 28)) f cdv A outer s H E) rfl
  exact (qs_cons (qp_set 3 (by decide) nd rfl (by first | exact Or.inl rfl | exact Or.inr rfl) px_non) (qs_cons (qp_try 4 3 [3, 4] (cv := 2) (by decide) (by decide) rfl rfl rfl nd rfl rfl rfl (by decide) T.x_ReissueError T.ex_ReissueError tk (fun W pn xe tk po => (qs_one (qp_if (t_eqO (n := 1) (own := ownEq) [0, 1] (OwnD.cons D_Behavior___eq__ (by decide) (OwnD.cons D_Rule___eq__ (by decide) OwnD.nil)) (hr.mono (by decide)) T.isok (fun p hp => T.cm p.1 (in_ownEq p hp)) (px_name 0) px_int) (qs_one (qp_expr (px_make [.im, .im] D_Rule___init__ (hr.mono (by decide)) tk rfl (pl_cons (px_name 1) (pl_cons (px_name 2) pl_nil)) (len_cons (len_cons len_nil))))) (qs_one (qp_expr (px_make [.im] D_Rule___init___1 (hr.mono (by decide)) tk rfl (pl_cons (px_name 1) pl_nil) (len_cons len_nil))))))) (fun a oe pn => pk_set 4 3 nd rfl (by first | exact Or.inl rfl | exact Or.inr rfl) rfl (.inl rfl) (by decide) (by decide) rfl (.inr rfl))) (qs_one (qp_ret (px_if (pt_any (x_isG [0, 1] [3, 4] T.is_4 rfl T.b_isinstance (pl_cons (px_name 3) (pl_cons (px_gl T.g_InvalidNumber rfl) pl_nil)))) (px_call [.im] D_law_shown (hr.mono (by decide)) tk rfl (pl_cons (px_xf [3, 4] (fun c h => T.xf c (mem_sub (by decide) h)) T.xn_value (px_name 3)) pl_nil) (len_cons len_nil)) px_non)))))
def w_law_refused_0 : Env → SRes := fIfS (fTb (fCmpO (eqO true) ownEq [0, 1] false true (fCall F_law_caught [.im, .im, .im] [] (fCons (fC (.int 0)) (fCons (fN 1) (fCons (fN 2) (fNil))))) (fCall F_law_shown [.im] [] (fCons (fN 0) (fNil))))) (fRet [] (fC (.bl false))) (fNx)
def w_law_refused_1 : Env → SRes := fSeq (fFor itL (fLst (fCons (fTup (fCons (fN 0) (fCons (fC (.int 0)) (fNil)))) (fCons (fTup (fCons (fN 0) (fCons (fC (.int 1)) (fNil)))) (fCons (fTup (fCons (fN 0) (fCons (fC (.int 7)) (fNil)))) (fCons (fTup (fCons (fN 0) (fCons (fC .non) (fNil)))) (fCons (fTup (fCons (fN 0) (fCons (fN 0) (fNil)))) (fCons (fTup (fCons (fC (.int 0)) (fCons (fN 0) (fNil)))) (fCons (fTup (fCons (fC (.int 3)) (fCons (fN 0) (fNil)))) (fNil))))))))) (sTup 2 (sCons (sName 1) (sCons (sName 2) (sNil)))) (w_law_refused_0)) (fIfS (fTb (fCmpO (eqO true) ownEq [0, 1] false true (fCall F_law_caught [.im, .im, .im] [] (fCons (fC (.int 1)) (fCons (fN 0) (fCons (fC (.int 1)) (fNil))))) (fCall F_law_shown [.im] [] (fCons (fN 0) (fNil))))) (fRet [] (fC (.bl false))) (fNx))
def b_law_refused : Env → SRes := fSeq (fFor itL (fLst (fCons (fC .non) (fCons (fC (.bl true)) (fCons (fC (.bl false)) (fCons (fP oNeg (fCons (fC (.int 1)) fNil)) (fCons (fC (.str "1")) (fCons (fLst (fNil)) (fCons (fLst (fCons (fC (.int 1)) (fNil))) (fCons (fTup (fCons (fC (.int 1)) (fNil))) (fCons (fTup (fCons (fC (.int 1)) (fCons (fC (.int 2)) (fNil)))) (fCons (fTup (fNil)) (fCons (fDict0) (fCons (fMake 0 F_Behavior___init__ [.im, .im, .im, .im] [] (fCons (fC (.int 2)) (fCons (fLst (fNil)) (fCons (fLst (fNil)) (fCons (fLst (fNil)) (fNil)))))) (fCons (fMake 1 F_Rule___init__ [.im] [.int 1] (fCons (fC (.int 3)) (fNil))) (fNil))))))))))))))) (sName 0) (w_law_refused_1)) (fRet [] (fAnd (fCmpO (eqO false) ownEq [0, 1] true false (fCall F_law_caught [.im, .im, .im] [] (fCons (fC (.int 0)) (fCons (fC (.int 0)) (fCons (fC (.int 0)) (fNil))))) (fC (.str "0"))) (fAnd (f2 (oIsN false) (fCall F_law_caught [.im, .im, .im] [] (fCons (fC (.int 0)) (fCons (fC (.int 0)) (fCons (fC (.int 1)) (fNil))))) (fC .non)) (fCmpO (eqO false) ownEq [0, 1] true false (fCall F_law_caught [.im, .im, .im] [] (fCons (fC (.int 0)) (fCons (fC (.int 5)) (fCons (fP oNeg (fCons (fC (.int 3)) fNil)) (fNil))))) (fC (.str "-3"))))))
def F_law_refused : List O → FRes := fDef [] 3 b_law_refused
theorem sc_law_refused : FnScope ["_law_odd", "_law_first", "_law_second"] [] (defScope (topS 29)) := ⟨rfl, rfl, rfl, by decide +kernel, rfl, by decide +kernel, by decide +kernel⟩
theorem ok_law_refused {f : Addr} {fd : FuncData} (F : Fun K "_law_refused" "_law_refused" (topS 29) f fd) (T : Txt mg K pl) (D_law_caught : Def P w ⟨K, pl⟩ mg base "_law_caught" 6 3 F_law_caught) (D_Behavior___eq__ : Mth P w ⟨K, pl⟩ mg base 0 "__eq__" 1 1 F_Behavior___eq__) (D_Rule___eq__ : Mth P w ⟨K, pl⟩ mg base 1 "__eq__" 1 1 F_Rule___eq__) (D_Rule___init___1 : Kls P w ⟨K, pl⟩ mg base "Rule" 1 4 1 [.int 1] F_Rule___init__) (D_Behavior___init__ : Kls P w ⟨K, pl⟩ mg base "Behavior" 0 7 4 [] F_Behavior___init__) (D_law_shown : Def P w ⟨K, pl⟩ mg base "_law_shown" 2 1 F_law_shown) : FnG P w K mg base 9 f fd [] (SpF ⟨K, pl⟩ 0 F_law_refused) := by
  refine def_ok (body := b_law_refused) (B := []) (m := 3) F sc_law_refused rfl rfl fun cdv A outer s H E hr => ?_
  have nd := sc_law_refused.nd
  have tk := takes_of (X := cxOf (L2.CX P w) P w K mg base ["_law_odd", "_law_first", "_law_second"] "_law_refused" (defScope (topS 29)) f cdv A outer s H E) (E := E) rfl rfl rfl rfl
  have po := passes_of (X := cxOf (L2.CX P w) P w K mg base ["_law_odd", "_law_first", "_law_second"] "_law_refused" (defScope (topS 29)) f cdv A outer s H E) rfl
  exact (qs_cons (qp_for po rfl (tg_name (by decide)) (px_lst (pl_cons px_non (pl_cons px_bl (pl_cons px_bl (pl_cons (x_neg px_int) (pl_cons px_str (pl_cons (px_lst pl_nil) (pl_cons (px_lst (pl_cons px_int pl_nil)) (pl_cons (px_tup (pl_cons px_int pl_nil)) (pl_cons (px_tup (pl_cons px_int (pl_cons px_int pl_nil))) (pl_cons (px_tup pl_nil) (pl_cons px_dict0 (pl_cons (px_make [.im, .im, .im, .im] D_Behavior___init__ (hr.mono (by decide)) tk rfl (pl_cons px_int (pl_cons (px_lst pl_nil) (pl_cons (px_lst pl_nil) (pl_cons (px_lst pl_nil) pl_nil)))) (len_cons (len_cons (len_cons (len_cons len_nil))))) (pl_cons (px_make [.im] D_Rule___init___1 (hr.mono (by decide)) tk rfl (pl_cons px_int pl_nil) (len_cons len_nil)) pl_nil)))))))))))))) (pg_name nd rfl (by first | exact Or.inl rfl | exact Or.inr rfl)) (qs_cons (qp_for po rfl (tg_tup (tgs_cons (tg_name (by decide)) (tgs_cons (tg_name (by decide)) tgs_nil))) (px_lst (pl_cons (px_tup (pl_cons (px_name 0) (pl_cons px_int pl_nil))) (pl_cons (px_tup (pl_cons (px_name 0) (pl_cons px_int pl_nil))) (pl_cons (px_tup (pl_cons (px_name 0) (pl_cons px_int pl_nil))) (pl_cons (px_tup (pl_cons (px_name 0) (pl_cons px_non pl_nil))) (pl_cons (px_tup (pl_cons (px_name 0) (pl_cons (px_name 0) pl_nil))) (pl_cons (px_tup (pl_cons px_int (pl_cons (px_name 0) pl_nil))) (pl_cons (px_tup (pl_cons px_int (pl_cons (px_name 0) pl_nil))) pl_nil)))))))) (pg_tup rfl (pgs_cons (pg_name nd rfl (by first | exact Or.inl rfl | exact Or.inr rfl)) (pgs_cons (pg_name nd rfl (by first | exact Or.inl rfl | exact Or.inr rfl)) pgs_nil))) (qs_one (qp_if (t_neO (n := 1) (own := ownEq) [0, 1] (OwnD.cons D_Behavior___eq__ (by decide) (OwnD.cons D_Rule___eq__ (by decide) OwnD.nil)) (hr.mono (by decide)) T.isok (fun p hp => T.cm p.1 (in_ownEq p hp)) (px_call [.im, .im, .im] D_law_caught (hr.mono (by decide)) tk rfl (pl_cons px_int (pl_cons (px_name 1) (pl_cons (px_name 2) pl_nil))) (len_cons (len_cons (len_cons len_nil)))) (px_call [.im] D_law_shown (hr.mono (by decide)) tk rfl (pl_cons (px_name 0) pl_nil) (len_cons len_nil))) (qs_one (qp_ret px_bl)) qs_nil))) (qs_one (qp_if (t_neO (n := 1) (own := ownEq) [0, 1] (OwnD.cons D_Behavior___eq__ (by decide) (OwnD.cons D_Rule___eq__ (by decide) OwnD.nil)) (hr.mono (by decide)) T.isok (fun p hp => T.cm p.1 (in_ownEq p hp)) (px_call [.im, .im, .im] D_law_caught (hr.mono (by decide)) tk rfl (pl_cons px_int (pl_cons (px_name 0) (pl_cons px_int pl_nil))) (len_cons (len_cons (len_cons len_nil)))) (px_call [.im] D_law_shown (hr.mono (by decide)) tk rfl (pl_cons (px_name 0) pl_nil) (len_cons len_nil))) (qs_one (qp_ret px_bl)) qs_nil)))) (qs_one (qp_ret (px_and (x_eqO (n := 1) (own := ownEq) [0, 1] (OwnD.cons D_Behavior___eq__ (by decide) (OwnD.cons D_Rule___eq__ (by decide) OwnD.nil)) (hr.mono (by decide)) T.isok (fun p hp => T.cm p.1 (in_ownEq p hp)) (px_call [.im, .im, .im] D_law_caught (hr.mono (by decide)) tk rfl (pl_cons px_int (pl_cons px_int (pl_cons px_int pl_nil))) (len_cons (len_cons (len_cons len_nil)))) px_str) (px_and (x_isN (px_call [.im, .im, .im] D_law_caught (hr.mono (by decide)) tk rfl (pl_cons px_int (pl_cons px_int (pl_cons px_int pl_nil))) (len_cons (len_cons (len_cons len_nil)))) px_non) (px_one (x_eqO (n := 1) (own := ownEq) [0, 1] (OwnD.cons D_Behavior___eq__ (by decide) (OwnD.cons D_Rule___eq__ (by decide) OwnD.nil)) (hr.mono (by decide)) T.isok (fun p hp => T.cm p.1 (in_ownEq p hp)) (px_call [.im, .im, .im] D_law_caught (hr.mono (by decide)) tk rfl (pl_cons px_int (pl_cons px_int (pl_cons (x_neg px_int) pl_nil))) (len_cons (len_cons (len_cons len_nil)))) px_str)))))))
def b_law_purse : Env → SRes := fSeq (fAsg (fP oSum (fCons (fP sl11 (fCons (fN 0) (fCons (fInt (fN 1)) (fCons (f2F oPlus catO (fN 1) (fC (.int 1))) fNil)))) (fNil))) (sName 2)) (fRet [] (fLst (fCons (f2 oMod (fP oMax2 (fCons (f2 oSub (fN 2) (f2 oPow (fC (.int 10)) (fC (.int 18)))) (fCons (fC (.int 0)) (fNil)))) (f2 oPow (f2 oPow (fC (.int 10)) (fC (.int 60))) (fC (.int 10)))) (fCons (f2 oMod (fN 2) (fC (.int 2147483647))) (fCons (f2 oTimes (fC (.int 1000)) (fN 1)) (fNil))))))
def F_law_purse : List O → FRes := fDef [] 1 b_law_purse
theorem sc_law_purse : FnScope ["_law_script", "_law_at", "_law_cell"] ["_law_script", "_law_at"] (defScope (topS 21)) := ⟨rfl, rfl, rfl, by decide +kernel, rfl, by decide +kernel, by decide +kernel⟩
theorem ok_law_purse {f : Addr} {fd : FuncData} (F : Fun K "_law_purse" "_law_purse" (topS 21) f fd) (T : Txt mg K pl) : FnG P w K mg base 1 f fd ["_law_script", "_law_at"] (SpF ⟨K, pl⟩ 2 F_law_purse) := by
  refine def_ok (body := b_law_purse) (B := []) (m := 1) F sc_law_purse rfl rfl fun cdv A outer s H E hr => ?_
  have nd := sc_law_purse.nd
  have tk := takes_of (X := cxOf (L2.CX P w) P w K mg base ["_law_script", "_law_at", "_law_cell"] "_law_purse" (defScope (topS 21)) f cdv A outer s H E) (E := E) rfl rfl rfl rfl
  have po := passes_of (X := cxOf (L2.CX P w) P w K mg base ["_law_script", "_law_at", "_law_cell"] "_law_purse" (defScope (topS 21)) f cdv A outer s H E) rfl
  exact (qs_cons (qp_set 2 (by decide) nd rfl (by first | exact Or.inl rfl | exact Or.inr rfl) (x_sum rfl T.b_sum (pl_cons (x_sl11 (px_name 0) (px_name 1) (x_plus2 (px_name 1) px_int)) pl_nil))) (qs_one (qp_ret (px_lst (pl_cons (x_mod (x_max2 rfl T.b_max (pl_cons (x_sub (px_name 2) (x_pow px_int px_int)) (pl_cons px_int pl_nil))) (x_pow (x_pow px_int px_int) px_int)) (pl_cons (x_mod (px_name 2) px_int) (pl_cons (x_times px_int (px_name 1)) pl_nil)))))))
def b_Rule_turns : Env → SRes := fRet [] (fFld 1 "_turns" (fN 0))
def F_Rule_turns : List O → FRes := fDef [] 0 b_Rule_turns
theorem sc_Rule_turns : FnScope ["self"] ["self"] (defScope (clsS 16 2)) := ⟨rfl, rfl, rfl, by decide +kernel, rfl, by decide +kernel, by decide +kernel⟩
theorem ok_Rule_turns {f : Addr} {fd : FuncData} (F : Fun K "turns" "Rule.turns" (clsS 16 2) f fd) (T : Txt mg K pl) : FnG P w K mg base 1 f fd ["self"] (SpF ⟨K, pl⟩ 1 F_Rule_turns) := by
  refine def_ok (body := b_Rule_turns) (B := []) (m := 0) F sc_Rule_turns rfl rfl fun cdv A outer s H E hr => ?_
  have nd := sc_Rule_turns.nd
  have tk := takes_of (X := cxOf (L2.CX P w) P w K mg base ["self"] "Rule.turns" (defScope (clsS 16 2)) f cdv A outer s H E) (E := E) rfl rfl rfl rfl
  have po := passes_of (X := cxOf (L2.CX P w) P w K mg base ["self"] "Rule.turns" (defScope (clsS 16 2)) f cdv A outer s H E) rfl
  exact (qs_one (qp_ret (px_fld 1 T.cl_1 T.na_1_turns (px_name 0))))
def b_Rule_wait : Env → SRes := fRet [] (fFld 1 "_wait" (fN 0))
def F_Rule_wait : List O → FRes := fDef [] 0 b_Rule_wait
theorem sc_Rule_wait : FnScope ["self"] ["self"] (defScope (clsS 16 1)) := ⟨rfl, rfl, rfl, by decide +kernel, rfl, by decide +kernel, by decide +kernel⟩
theorem ok_Rule_wait {f : Addr} {fd : FuncData} (F : Fun K "wait" "Rule.wait" (clsS 16 1) f fd) (T : Txt mg K pl) : FnG P w K mg base 1 f fd ["self"] (SpF ⟨K, pl⟩ 1 F_Rule_wait) := by
  refine def_ok (body := b_Rule_wait) (B := []) (m := 0) F sc_Rule_wait rfl rfl fun cdv A outer s H E hr => ?_
  have nd := sc_Rule_wait.nd
  have tk := takes_of (X := cxOf (L2.CX P w) P w K mg base ["self"] "Rule.wait" (defScope (clsS 16 1)) f cdv A outer s H E) (E := E) rfl rfl rfl rfl
  have po := passes_of (X := cxOf (L2.CX P w) P w K mg base ["self"] "Rule.wait" (defScope (clsS 16 1)) f cdv A outer s H E) rfl
  exact (qs_one (qp_ret (px_fld 1 T.cl_1 T.na_1_wait (px_name 0))))
def b_product : Env → SRes := fRet [] (f2 oTimes (fMeth 1 "turns" (noEr F_Rule_turns) [.im] (fN 0) fNil) (fMeth 1 "wait" (noEr F_Rule_wait) [.im] (fN 0) fNil))
def F_product : List O → FRes := fDef [] 0 b_product
theorem sc_product : FnScope ["rule"] ["rule"] (defScope (topS 18)) := ⟨rfl, rfl, rfl, by decide +kernel, rfl, by decide +kernel, by decide +kernel⟩
theorem ok_product {f : Addr} {fd : FuncData} (F : Fun K "_product" "_product" (topS 18) f fd) (T : Txt mg K pl) (D_Rule_turns : Prp P w ⟨K, pl⟩ mg base 1 "turns" 1 F_Rule_turns) (D_Rule_wait : Prp P w ⟨K, pl⟩ mg base 1 "wait" 1 F_Rule_wait) : FnG P w K mg base 3 f fd ["rule"] (SpF ⟨K, pl⟩ 1 F_product) := by
  refine def_ok (body := b_product) (B := []) (m := 0) F sc_product rfl rfl fun cdv A outer s H E hr => ?_
  have nd := sc_product.nd
  have tk := takes_of (X := cxOf (L2.CX P w) P w K mg base ["rule"] "_product" (defScope (topS 18)) f cdv A outer s H E) (E := E) rfl rfl rfl rfl
  have po := passes_of (X := cxOf (L2.CX P w) P w K mg base ["rule"] "_product" (defScope (topS 18)) f cdv A outer s H E) rfl
  exact (qs_one (qp_ret (x_times (px_prop 1 .im T.cl_1 D_Rule_turns (hr.mono (by decide)) (px_name 0)) (px_prop 1 .im T.cl_1 D_Rule_wait (hr.mono (by decide)) (px_name 0)))))
def b_is_at_most : Env → SRes := fRet [] (fAnd (f2 oLe (fMeth 1 "turns" (noEr F_Rule_turns) [.im] (fN 0) fNil) (fMeth 1 "turns" (noEr F_Rule_turns) [.im] (fN 1) fNil)) (f2 oLe (fCall F_product [.im] [] (fCons (fN 0) (fNil))) (fCall F_product [.im] [] (fCons (fN 1) (fNil)))))
def F_is_at_most : List O → FRes := fDef [] 0 b_is_at_most
theorem sc_is_at_most : FnScope ["one", "other"] ["one", "other"] (defScope (topS 17)) := ⟨rfl, rfl, rfl, by decide +kernel, rfl, by decide +kernel, by decide +kernel⟩
theorem ok_is_at_most {f : Addr} {fd : FuncData} (F : Fun K "_is_at_most" "_is_at_most" (topS 17) f fd) (T : Txt mg K pl) (D_Rule_turns : Prp P w ⟨K, pl⟩ mg base 1 "turns" 1 F_Rule_turns) (D_product : Def P w ⟨K, pl⟩ mg base "_product" 3 1 F_product) : FnG P w K mg base 4 f fd ["one", "other"] (SpF ⟨K, pl⟩ 2 F_is_at_most) := by
  refine def_ok (body := b_is_at_most) (B := []) (m := 0) F sc_is_at_most rfl rfl fun cdv A outer s H E hr => ?_
  have nd := sc_is_at_most.nd
  have tk := takes_of (X := cxOf (L2.CX P w) P w K mg base ["one", "other"] "_is_at_most" (defScope (topS 17)) f cdv A outer s H E) (E := E) rfl rfl rfl rfl
  have po := passes_of (X := cxOf (L2.CX P w) P w K mg base ["one", "other"] "_is_at_most" (defScope (topS 17)) f cdv A outer s H E) rfl
  exact (qs_one (qp_ret (px_and (x_le (px_prop 1 .im T.cl_1 D_Rule_turns (hr.mono (by decide)) (px_name 0)) (px_prop 1 .im T.cl_1 D_Rule_turns (hr.mono (by decide)) (px_name 1))) (px_one (x_le (px_call [.im] D_product (hr.mono (by decide)) tk rfl (pl_cons (px_name 0) pl_nil) (len_cons len_nil)) (px_call [.im] D_product (hr.mono (by decide)) tk rfl (pl_cons (px_name 1) pl_nil) (len_cons len_nil)))))))
def b_Rule___gt__ : Env → SRes := fSeq (fIfS (fNotT (fTr (fP (oIsG [0, 1] [3, 4] 1 [1]) (fCons (fN 1) (fCons (fC (.cls 1)) fNil))))) (fNoS) (fNx)) (fRet [] (fAnd (fCall F_is_at_most [.im, .im] [] (fCons (fN 1) (fCons (fN 0) (fNil)))) (fNot (fCall F_is_at_most [.im, .im] [] (fCons (fN 0) (fCons (fN 1) (fNil)))))))
def F_Rule___gt__ : List O → FRes := fDef [] 0 b_Rule___gt__
theorem sc_Rule___gt__ : FnScope ["self", "other"] ["self", "other"] (defScope (clsS 16 7)) := ⟨rfl, rfl, rfl, by decide +kernel, rfl, by decide +kernel, by decide +kernel⟩
theorem ok_Rule___gt__ {f : Addr} {fd : FuncData} (F : Fun K "__gt__" "Rule.__gt__" (clsS 16 7) f fd) (T : Txt mg K pl) (D_is_at_most : Def P w ⟨K, pl⟩ mg base "_is_at_most" 4 2 F_is_at_most) : FnG P w K mg base 5 f fd ["self", "other"] (SpF ⟨K, pl⟩ 2 F_Rule___gt__) := by
  refine def_ok (body := b_Rule___gt__) (B := []) (m := 0) F sc_Rule___gt__ rfl rfl fun cdv A outer s H E hr => ?_
  have nd := sc_Rule___gt__.nd
  have tk := takes_of (X := cxOf (L2.CX P w) P w K mg base ["self", "other"] "Rule.__gt__" (defScope (clsS 16 7)) f cdv A outer s H E) (E := E) rfl rfl rfl rfl
  have po := passes_of (X := cxOf (L2.CX P w) P w K mg base ["self", "other"] "Rule.__gt__" (defScope (clsS 16 7)) f cdv A outer s H E) rfl
  exact (qs_cons (qp_if (pt_not' (pt_any (x_isG [0, 1] [3, 4] T.is_1 rfl T.b_isinstance (pl_cons (px_name 1) (pl_cons (px_gl T.g_Rule rfl) pl_nil))))) (qs_one qp_never) qs_nil) (qs_one (qp_ret (px_and (px_call [.im, .im] D_is_at_most (hr.mono (by decide)) tk rfl (pl_cons (px_name 1) (pl_cons (px_name 0) pl_nil)) (len_cons (len_cons len_nil))) (px_one (px_not (px_call [.im, .im] D_is_at_most (hr.mono (by decide)) tk rfl (pl_cons (px_name 0) (pl_cons (px_name 1) pl_nil)) (len_cons (len_cons len_nil)))))))))
def b_law_mixed : Env → SRes := fSeq (fAsg (f2 oMod (f2F oPlus catO (f2F oPlus catO (f2F oPlus catO (f2 oTimes (fN 0) (fC (.int 1103515245))) (f2 oTimes (f2 oTimes (fC (.int 7919)) (fN 1)) (fN 1))) (fN 1)) (fC (.int 1))) (fC (.int 2147483647))) (sName 2)) (fSeq (fAsg (f2 oMod (f2F oPlus catO (f2 oTimes (fN 2) (fN 2)) (fC (.int 69621))) (fC (.int 2147483629))) (sName 2)) (fRet [] (f2 oMod (f2 oTimes (fN 2) (fC (.int 48271))) (fC (.int 2147483587)))))
def F_law_mixed : List O → FRes := fDef [] 1 b_law_mixed
theorem sc_law_mixed : FnScope ["_law_cell", "_law_k", "_law_number"] ["_law_cell", "_law_k"] (defScope (topS 20)) := ⟨rfl, rfl, rfl, by decide +kernel, rfl, by decide +kernel, by decide +kernel⟩
theorem ok_law_mixed {f : Addr} {fd : FuncData} (F : Fun K "_law_mixed" "_law_mixed" (topS 20) f fd) (T : Txt mg K pl) : FnG P w K mg base 1 f fd ["_law_cell", "_law_k"] (SpF ⟨K, pl⟩ 2 F_law_mixed) := by
  refine def_ok (body := b_law_mixed) (B := []) (m := 1) F sc_law_mixed rfl rfl fun cdv A outer s H E hr => ?_
  have nd := sc_law_mixed.nd
  have tk := takes_of (X := cxOf (L2.CX P w) P w K mg base ["_law_cell", "_law_k", "_law_number"] "_law_mixed" (defScope (topS 20)) f cdv A outer s H E) (E := E) rfl rfl rfl rfl
  have po := passes_of (X := cxOf (L2.CX P w) P w K mg base ["_law_cell", "_law_k", "_law_number"] "_law_mixed" (defScope (topS 20)) f cdv A outer s H E) rfl
  exact (qs_cons (qp_set 2 (by decide) nd rfl (by first | exact Or.inl rfl | exact Or.inr rfl) (x_mod (x_plus2 (x_plus2 (x_plus2 (x_times (px_name 0) px_int) (x_times (x_times px_int (px_name 1)) (px_name 1))) (px_name 1)) px_int) px_int)) (qs_cons (qp_set 2 (by decide) nd rfl (by first | exact Or.inl rfl | exact Or.inr rfl) (x_mod (x_plus2 (x_times (px_name 2) (px_name 2)) px_int) px_int)) (qs_one (qp_ret (x_mod (x_times (px_name 2) px_int) px_int)))))
def ownGt : OwnT := [(1, F_Rule___gt__)]
theorem in_ownGt : ∀ p ∈ ownGt, p.1 ∈ ([0, 1] : List Nat) := by
  intro p hp
  simp only [ownGt, List.mem_cons, List.not_mem_nil, or_false] at hp
  rcases hp with rfl <;> simp
def w_law_draw_0 : Env → SRes := fSeq (fAsg (f2F oPlus catO (f2 ixO (fN 0) (fC (.int 2))) (fC (.int 1))) (sSub 0 (fC (.int 2)))) (fAsg (f2F oPlus catO (f2 oTimes (fN 2) (fC (.int 2147483587))) (fCall F_law_mixed [.im, .im] [] (fCons (f2 ixO (fN 0) (fC (.int 1))) (fCons (f2 ixO (fN 0) (fC (.int 2))) (fNil))))) (sName 2))
def b_law_draw : Env → SRes := fSeq (fIfS (fTb (fCmpO oGt ownGt [0, 1] false false (f2 ixO (fN 0) (fC (.int 0))) (fC (.int 0)))) (fSeq (fAsg (f2 oMod (f2 ixO (fN 0) (fC (.int 0))) (fN 1)) (sName 4)) (fSeq (fAsg (f2 oDiv (f2 ixO (fN 0) (fC (.int 0))) (fN 1)) (sSub 0 (fC (.int 0)))) (fRet [0] (fN 4)))) (fNx)) (fSeq (fAsg (fC (.int 0)) (sName 2)) (fSeq (fForR rng1 (fCons (f2F oPlus catO (fC (.int 1)) (f2 oDiv (fBits (fN 1)) (fC (.int 30)))) (fNil)) (sName 3) (w_law_draw_0)) (fRet [0] (f2 oMod (fN 2) (fN 1)))))
def F_law_draw : List O → FRes := fDef [0] 3 b_law_draw
theorem sc_law_draw : FnScope ["_law_purse_here", "_law_out_of", "_law_number", "_law_k", "_law_drawn"] ["_law_purse_here", "_law_out_of"] (defScope (topS 22)) := ⟨rfl, rfl, rfl, by decide +kernel, rfl, by decide +kernel, by decide +kernel⟩
theorem ok_law_draw {f : Addr} {fd : FuncData} (F : Fun K "_law_draw" "_law_draw" (topS 22) f fd) (T : Txt mg K pl) (D_law_mixed : Def P w ⟨K, pl⟩ mg base "_law_mixed" 1 2 F_law_mixed) (D_Rule___gt__ : Mth P w ⟨K, pl⟩ mg base 1 "__gt__" 5 1 F_Rule___gt__) : FnG P w K mg base 7 f fd ["_law_purse_here", "_law_out_of"] (SpF ⟨K, pl⟩ 2 F_law_draw) := by
  refine def_ok (body := b_law_draw) (B := [0]) (m := 3) F sc_law_draw rfl rfl fun cdv A outer s H E hr => ?_
  have nd := sc_law_draw.nd
  have tk := takes_of (X := cxOf (L2.CX P w) P w K mg base ["_law_purse_here", "_law_out_of", "_law_number", "_law_k", "_law_drawn"] "_law_draw" (defScope (topS 22)) f cdv A outer s H E) (E := E) rfl rfl rfl rfl
  have po := passes_of (X := cxOf (L2.CX P w) P w K mg base ["_law_purse_here", "_law_out_of", "_law_number", "_law_k", "_law_drawn"] "_law_draw" (defScope (topS 22)) f cdv A outer s H E) rfl
  exact (qs_cons (qp_if (t_gtO (n := 5) (own := ownGt) [0, 1] (OwnD.cons D_Rule___gt__ (by decide) OwnD.nil) (hr.mono (by decide)) T.isok (fun p hp => T.cm p.1 (in_ownGt p hp)) (x_ix (px_name 0) px_int) px_int) (qs_cons (qp_set 4 (by decide) nd rfl (by first | exact Or.inl rfl | exact Or.inr rfl) (x_mod (x_ix (px_name 0) px_int) (px_name 1))) (qs_cons (qp_asg (tg_sub fun _ => keepB.refl) (x_div (x_ix (px_name 0) px_int) (px_name 1)) (pg_item (px_name 0) px_int)) (qs_one (qp_ret (px_name 4))))) qs_nil) (qs_cons (qp_set 2 (by decide) nd rfl (by first | exact Or.inl rfl | exact Or.inr rfl) px_int) (qs_cons (qp_range1 po rfl (tg_name (by decide)) rfl T.b_range (pl_cons (x_plus2 px_int (x_div (x_bits (px_name 1)) px_int)) pl_nil) (pg_name nd rfl (by first | exact Or.inl rfl | exact Or.inr rfl)) (qs_cons (qp_asg (tg_sub fun _ => keepB.refl) (x_plus2 (x_ix (px_name 0) px_int) px_int) (pg_item (px_name 0) px_int)) (qs_one (qp_set 2 (by decide) nd rfl (by first | exact Or.inl rfl | exact Or.inr rfl) (x_plus2 (x_times (px_name 2) px_int) (px_call [.im, .im] D_law_mixed (hr.mono (by decide)) tk rfl (pl_cons (x_ix (px_name 0) px_int) (pl_cons (x_ix (px_name 0) px_int) pl_nil)) (len_cons (len_cons len_nil)))))))) (qs_one (qp_ret (x_mod (px_name 2) (px_name 1)))))))
def b_law_numbers : Env → SRes := fSeq (fAsg (f2 ixO (fLst (fCons (fC (.int 0)) (fCons (fCall F_law_draw [.bw, .im] [] (fCons (fN 0) (fCons (fC (.int 4)) (fNil)))) (fCons (fCall F_law_draw [.bw, .im] [] (fCons (fN 0) (fCons (fC (.int 60)) (fNil)))) (fCons (fCall F_law_draw [.bw, .im] [] (fCons (fN 0) (fCons (f2 oPow (fC (.int 10)) (fC (.int 29))) (fNil)))) (fNil)))))) (fCall F_law_draw [.bw, .im] [] (fCons (fN 0) (fCons (fC (.int 4)) (fNil))))) (sName 1)) (fSeq (fAsg (f2 ixO (fLst (fCons (fC (.int 1)) (fCons (f2F oPlus catO (fC (.int 1)) (fCall F_law_draw [.bw, .im] [] (fCons (fN 0) (fCons (fC (.int 9)) (fNil))))) (fCons (f2F oPlus catO (fC (.int 1)) (fCall F_law_draw [.bw, .im] [] (fCons (fN 0) (fCons (fC (.int 60)) (fNil))))) (fCons (f2F oPlus catO (fC (.int 1)) (fCall F_law_draw [.bw, .im] [] (fCons (fN 0) (fCons (f2 oPow (fC (.int 10)) (fC (.int 20))) (fNil))))) (fNil)))))) (fCall F_law_draw [.bw, .im] [] (fCons (fN 0) (fCons (fC (.int 4)) (fNil))))) (sName 2)) (fRet [0] (fTup (fCons (fN 1) (fCons (fN 2) (fNil))))))
def F_law_numbers : List O → FRes := fDef [0] 2 b_law_numbers
theorem sc_law_numbers : FnScope ["_law_purse_here", "_law_first", "_law_second"] ["_law_purse_here"] (defScope (topS 24)) := ⟨rfl, rfl, rfl, by decide +kernel, rfl, by decide +kernel, by decide +kernel⟩
theorem ok_law_numbers {f : Addr} {fd : FuncData} (F : Fun K "_law_numbers" "_law_numbers" (topS 24) f fd) (T : Txt mg K pl) (D_law_draw : Def P w ⟨K, pl⟩ mg base "_law_draw" 7 2 F_law_draw) : FnG P w K mg base 8 f fd ["_law_purse_here"] (SpF ⟨K, pl⟩ 1 F_law_numbers) := by
  refine def_ok (body := b_law_numbers) (B := [0]) (m := 2) F sc_law_numbers rfl rfl fun cdv A outer s H E hr => ?_
  have nd := sc_law_numbers.nd
  have tk := takes_of (X := cxOf (L2.CX P w) P w K mg base ["_law_purse_here", "_law_first", "_law_second"] "_law_numbers" (defScope (topS 24)) f cdv A outer s H E) (E := E) rfl rfl rfl rfl
  have po := passes_of (X := cxOf (L2.CX P w) P w K mg base ["_law_purse_here", "_law_first", "_law_second"] "_law_numbers" (defScope (topS 24)) f cdv A outer s H E) rfl
  exact (qs_cons (qp_set 1 (by decide) nd rfl (by first | exact Or.inl rfl | exact Or.inr rfl) (x_ix (px_lst (pl_cons px_int (pl_cons (px_call [.bw, .im] D_law_draw (hr.mono (by decide)) tk rfl (pl_cons (px_name 0) (pl_cons px_int pl_nil)) (len_cons (len_cons len_nil))) (pl_cons (px_call [.bw, .im] D_law_draw (hr.mono (by decide)) tk rfl (pl_cons (px_name 0) (pl_cons px_int pl_nil)) (len_cons (len_cons len_nil))) (pl_cons (px_call [.bw, .im] D_law_draw (hr.mono (by decide)) tk rfl (pl_cons (px_name 0) (pl_cons (x_pow px_int px_int) pl_nil)) (len_cons (len_cons len_nil))) pl_nil))))) (px_call [.bw, .im] D_law_draw (hr.mono (by decide)) tk rfl (pl_cons (px_name 0) (pl_cons px_int pl_nil)) (len_cons (len_cons len_nil))))) (qs_cons (qp_set 2 (by decide) nd rfl (by first | exact Or.inl rfl | exact Or.inr rfl) (x_ix (px_lst (pl_cons px_int (pl_cons (x_plus2 px_int (px_call [.bw, .im] D_law_draw (hr.mono (by decide)) tk rfl (pl_cons (px_name 0) (pl_cons px_int pl_nil)) (len_cons (len_cons len_nil)))) (pl_cons (x_plus2 px_int (px_call [.bw, .im] D_law_draw (hr.mono (by decide)) tk rfl (pl_cons (px_name 0) (pl_cons px_int pl_nil)) (len_cons (len_cons len_nil)))) (pl_cons (x_plus2 px_int (px_call [.bw, .im] D_law_draw (hr.mono (by decide)) tk rfl (pl_cons (px_name 0) (pl_cons (x_pow px_int px_int) pl_nil)) (len_cons (len_cons len_nil)))) pl_nil))))) (px_call [.bw, .im] D_law_draw (hr.mono (by decide)) tk rfl (pl_cons (px_name 0) (pl_cons px_int pl_nil)) (len_cons (len_cons len_nil))))) (qs_one (qp_ret (px_tup (pl_cons (px_name 1) (pl_cons (px_name 2) pl_nil)))))))
def b_law_rule : Env → SRes := fRet [] (fMake 1 F_Rule___init__ [.im, .im] [] (fCons (f2 ixO (fN 0) (fC (.int 0))) (fCons (f2 ixO (fN 0) (fC (.int 1))) (fNil))))
def F_law_rule : List O → FRes := fDef [] 0 b_law_rule
theorem sc_law_rule : FnScope ["_law_parts"] ["_law_parts"] (defScope (topS 25)) := ⟨rfl, rfl, rfl, by decide +kernel, rfl, by decide +kernel, by decide +kernel⟩
theorem ok_law_rule {f : Addr} {fd : FuncData} (F : Fun K "_law_rule" "_law_rule" (topS 25) f fd) (T : Txt mg K pl) (D_Rule___init__ : Kls P w ⟨K, pl⟩ mg base "Rule" 1 4 2 [] F_Rule___init__) : FnG P w K mg base 6 f fd ["_law_parts"] (SpF ⟨K, pl⟩ 1 F_law_rule) := by
  refine def_ok (body := b_law_rule) (B := []) (m := 0) F sc_law_rule rfl rfl fun cdv A outer s H E hr => ?_
  have nd := sc_law_rule.nd
  have tk := takes_of (X := cxOf (L2.CX P w) P w K mg base ["_law_parts"] "_law_rule" (defScope (topS 25)) f cdv A outer s H E) (E := E) rfl rfl rfl rfl
  have po := passes_of (X := cxOf (L2.CX P w) P w K mg base ["_law_parts"] "_law_rule" (defScope (topS 25)) f cdv A outer s H E) rfl
  exact (qs_one (qp_ret (px_make [.im, .im] D_Rule___init__ (hr.mono (by decide)) tk rfl (pl_cons (x_ix (px_name 0) px_int) (pl_cons (x_ix (px_name 0) px_int) pl_nil)) (len_cons (len_cons len_nil)))))
def w_law_alone_0 : Env → SRes := fIfS (fOrT (fTb (fCmpO (eqO false) ownEq [0, 1] true false (fN 0) (fN 3))) (fOrT (fTb (fCmpO (eqO false) ownEq [0, 1] true false (fN 3) (fN 0))) (fNotT (fTb (fCmpO (eqO true) ownEq [0, 1] false true (fN 0) (fN 3)))))) (fRet [] (fC (.bl false))) (fNx)
def b_law_alone : Env → SRes := fSeq (fAsg (fLst (fCons (fN 1) (fCons (f2 ixO (fN 1) (fC (.int 0))) (fCons (fC .non) (fCons (fP oList (fCons (fN 1) (fNil))) (fCons (fP oStr (fCons (f2 ixO (fN 1) (fC (.int 0))) (fNil))) (fCons (fC (.str "endless")) (fCons (fC (.str "")) (fCons (fDict0) (fCons (fLst (fNil)) (fCons (fC (.bl true)) (fCons (fMake 0 F_Behavior___init__ [.im, .im, .im, .im] [] (fCons (fC (.int 2)) (fCons (fLst (fNil)) (fCons (fLst (fNil)) (fCons (fLst (fNil)) (fNil)))))) (fNil))))))))))))) (sName 2)) (fSeq (fFor itL (f2F oPlus catO (fN 2) (fLst (fCons (fLst (fCons (fN 0) (fNil))) (fCons (fTup (fCons (fN 0) (fNil))) (fNil))))) (sName 3) (w_law_alone_0)) (fRet [] (fCmpO (eqO false) ownEq [0, 1] true false (fTup (fCons (fMeth 1 "wait" (noEr F_Rule_wait) [.im] (fN 0) fNil) (fCons (fMeth 1 "turns" (noEr F_Rule_turns) [.im] (fN 0) fNil) (fNil)))) (fN 1))))
def F_law_alone : List O → FRes := fDef [] 2 b_law_alone
theorem sc_law_alone : FnScope ["_law_rule_here", "_law_parts", "_law_others", "_law_other"] ["_law_rule_here", "_law_parts"] (defScope (topS 27)) := ⟨rfl, rfl, rfl, by decide +kernel, rfl, by decide +kernel, by decide +kernel⟩
theorem ok_law_alone {f : Addr} {fd : FuncData} (F : Fun K "_law_alone" "_law_alone" (topS 27) f fd) (T : Txt mg K pl) (D_Rule_turns : Prp P w ⟨K, pl⟩ mg base 1 "turns" 1 F_Rule_turns) (D_Rule_wait : Prp P w ⟨K, pl⟩ mg base 1 "wait" 1 F_Rule_wait) (D_Behavior___eq__ : Mth P w ⟨K, pl⟩ mg base 0 "__eq__" 1 1 F_Behavior___eq__) (D_Rule___eq__ : Mth P w ⟨K, pl⟩ mg base 1 "__eq__" 1 1 F_Rule___eq__) (D_Behavior___init__ : Kls P w ⟨K, pl⟩ mg base "Behavior" 0 7 4 [] F_Behavior___init__) : FnG P w K mg base 9 f fd ["_law_rule_here", "_law_parts"] (SpF ⟨K, pl⟩ 2 F_law_alone) := by
  refine def_ok (body := b_law_alone) (B := []) (m := 2) F sc_law_alone rfl rfl fun cdv A outer s H E hr => ?_
  have nd := sc_law_alone.nd
  have tk := takes_of (X := cxOf (L2.CX P w) P w K mg base ["_law_rule_here", "_law_parts", "_law_others", "_law_other"] "_law_alone" (defScope (topS 27)) f cdv A outer s H E) (E := E) rfl rfl rfl rfl
  have po := passes_of (X := cxOf (L2.CX P w) P w K mg base ["_law_rule_here", "_law_parts", "_law_others", "_law_other"] "_law_alone" (defScope (topS 27)) f cdv A outer s H E) rfl
  exact (qs_cons (qp_set 2 (by decide) nd rfl (by first | exact Or.inl rfl | exact Or.inr rfl) (px_lst (pl_cons (px_name 1) (pl_cons (x_ix (px_name 1) px_int) (pl_cons px_non (pl_cons (x_list T.b_list (pl_cons (px_name 1) pl_nil)) (pl_cons (x_str T.b_str (pl_cons (x_ix (px_name 1) px_int) pl_nil)) (pl_cons px_str (pl_cons px_str (pl_cons px_dict0 (pl_cons (px_lst pl_nil) (pl_cons px_bl (pl_cons (px_make [.im, .im, .im, .im] D_Behavior___init__ (hr.mono (by decide)) tk rfl (pl_cons px_int (pl_cons (px_lst pl_nil) (pl_cons (px_lst pl_nil) (pl_cons (px_lst pl_nil) pl_nil)))) (len_cons (len_cons (len_cons (len_cons len_nil))))) pl_nil))))))))))))) (qs_cons (qp_for po rfl (tg_name (by decide)) (x_plus2 (px_name 2) (px_lst (pl_cons (px_lst (pl_cons (px_name 0) pl_nil)) (pl_cons (px_tup (pl_cons (px_name 0) pl_nil)) pl_nil)))) (pg_name nd rfl (by first | exact Or.inl rfl | exact Or.inr rfl)) (qs_one (qp_if (PW.pt (pw_or' (t_eqO (n := 1) (own := ownEq) [0, 1] (OwnD.cons D_Behavior___eq__ (by decide) (OwnD.cons D_Rule___eq__ (by decide) OwnD.nil)) (hr.mono (by decide)) T.isok (fun p hp => T.cm p.1 (in_ownEq p hp)) (px_name 0) (px_name 3)) (pw_or' (t_eqO (n := 1) (own := ownEq) [0, 1] (OwnD.cons D_Behavior___eq__ (by decide) (OwnD.cons D_Rule___eq__ (by decide) OwnD.nil)) (hr.mono (by decide)) T.isok (fun p hp => T.cm p.1 (in_ownEq p hp)) (px_name 3) (px_name 0)) (pw_or1' (pt_not' (t_neO (n := 1) (own := ownEq) [0, 1] (OwnD.cons D_Behavior___eq__ (by decide) (OwnD.cons D_Rule___eq__ (by decide) OwnD.nil)) (hr.mono (by decide)) T.isok (fun p hp => T.cm p.1 (in_ownEq p hp)) (px_name 0) (px_name 3))))))) (qs_one (qp_ret px_bl)) qs_nil))) (qs_one (qp_ret (x_eqO (n := 1) (own := ownEq) [0, 1] (OwnD.cons D_Behavior___eq__ (by decide) (OwnD.cons D_Rule___eq__ (by decide) OwnD.nil)) (hr.mono (by decide)) T.isok (fun p hp => T.cm p.1 (in_ownEq p hp)) (px_tup (pl_cons (px_prop 1 .im T.cl_1 D_Rule_wait (hr.mono (by decide)) (px_name 0)) (pl_cons (px_prop 1 .im T.cl_1 D_Rule_turns (hr.mono (by decide)) (px_name 0)) pl_nil))) (px_name 1))))))
def b_Rule___le__ : Env → SRes := fSeq (fIfS (fNotT (fTr (fP (oIsG [0, 1] [3, 4] 1 [1]) (fCons (fN 1) (fCons (fC (.cls 1)) fNil))))) (fNoS) (fNx)) (fRet [] (fCall F_is_at_most [.im, .im] [] (fCons (fN 0) (fCons (fN 1) (fNil)))))
def F_Rule___le__ : List O → FRes := fDef [] 0 b_Rule___le__
theorem sc_Rule___le__ : FnScope ["self", "other"] ["self", "other"] (defScope (clsS 16 4)) := ⟨rfl, rfl, rfl, by decide +kernel, rfl, by decide +kernel, by decide +kernel⟩
theorem ok_Rule___le__ {f : Addr} {fd : FuncData} (F : Fun K "__le__" "Rule.__le__" (clsS 16 4) f fd) (T : Txt mg K pl) (D_is_at_most : Def P w ⟨K, pl⟩ mg base "_is_at_most" 4 2 F_is_at_most) : FnG P w K mg base 5 f fd ["self", "other"] (SpF ⟨K, pl⟩ 2 F_Rule___le__) := by
  refine def_ok (body := b_Rule___le__) (B := []) (m := 0) F sc_Rule___le__ rfl rfl fun cdv A outer s H E hr => ?_
  have nd := sc_Rule___le__.nd
  have tk := takes_of (X := cxOf (L2.CX P w) P w K mg base ["self", "other"] "Rule.__le__" (defScope (clsS 16 4)) f cdv A outer s H E) (E := E) rfl rfl rfl rfl
  have po := passes_of (X := cxOf (L2.CX P w) P w K mg base ["self", "other"] "Rule.__le__" (defScope (clsS 16 4)) f cdv A outer s H E) rfl
  exact (qs_cons (qp_if (pt_not' (pt_any (x_isG [0, 1] [3, 4] T.is_1 rfl T.b_isinstance (pl_cons (px_name 1) (pl_cons (px_gl T.g_Rule rfl) pl_nil))))) (qs_one qp_never) qs_nil) (qs_one (qp_ret (px_call [.im, .im] D_is_at_most (hr.mono (by decide)) tk rfl (pl_cons (px_name 0) (pl_cons (px_name 1) pl_nil)) (len_cons (len_cons len_nil))))))
def b_Rule___ge__ : Env → SRes := fSeq (fIfS (fNotT (fTr (fP (oIsG [0, 1] [3, 4] 1 [1]) (fCons (fN 1) (fCons (fC (.cls 1)) fNil))))) (fNoS) (fNx)) (fRet [] (fCall F_is_at_most [.im, .im] [] (fCons (fN 1) (fCons (fN 0) (fNil)))))
def F_Rule___ge__ : List O → FRes := fDef [] 0 b_Rule___ge__
theorem sc_Rule___ge__ : FnScope ["self", "other"] ["self", "other"] (defScope (clsS 16 6)) := ⟨rfl, rfl, rfl, by decide +kernel, rfl, by decide +kernel, by decide +kernel⟩
theorem ok_Rule___ge__ {f : Addr} {fd : FuncData} (F : Fun K "__ge__" "Rule.__ge__" (clsS 16 6) f fd) (T : Txt mg K pl) (D_is_at_most : Def P w ⟨K, pl⟩ mg base "_is_at_most" 4 2 F_is_at_most) : FnG P w K mg base 5 f fd ["self", "other"] (SpF ⟨K, pl⟩ 2 F_Rule___ge__) := by
  refine def_ok (body := b_Rule___ge__) (B := []) (m := 0) F sc_Rule___ge__ rfl rfl fun cdv A outer s H E hr => ?_
  have nd := sc_Rule___ge__.nd
  have tk := takes_of (X := cxOf (L2.CX P w) P w K mg base ["self", "other"] "Rule.__ge__" (defScope (clsS 16 6)) f cdv A outer s H E) (E := E) rfl rfl rfl rfl
  have po := passes_of (X := cxOf (L2.CX P w) P w K mg base ["self", "other"] "Rule.__ge__" (defScope (clsS 16 6)) f cdv A outer s H E) rfl
  exact (qs_cons (qp_if (pt_not' (pt_any (x_isG [0, 1] [3, 4] T.is_1 rfl T.b_isinstance (pl_cons (px_name 1) (pl_cons (px_gl T.g_Rule rfl) pl_nil))))) (qs_one qp_never) qs_nil) (qs_one (qp_ret (px_call [.im, .im] D_is_at_most (hr.mono (by decide)) tk rfl (pl_cons (px_name 1) (pl_cons (px_name 0) pl_nil)) (len_cons (len_cons len_nil))))))
def b_Rule___lt__ : Env → SRes := fSeq (fIfS (fNotT (fTr (fP (oIsG [0, 1] [3, 4] 1 [1]) (fCons (fN 1) (fCons (fC (.cls 1)) fNil))))) (fNoS) (fNx)) (fRet [] (fAnd (fCall F_is_at_most [.im, .im] [] (fCons (fN 0) (fCons (fN 1) (fNil)))) (fNot (fCall F_is_at_most [.im, .im] [] (fCons (fN 1) (fCons (fN 0) (fNil)))))))
def F_Rule___lt__ : List O → FRes := fDef [] 0 b_Rule___lt__
theorem sc_Rule___lt__ : FnScope ["self", "other"] ["self", "other"] (defScope (clsS 16 5)) := ⟨rfl, rfl, rfl, by decide +kernel, rfl, by decide +kernel, by decide +kernel⟩
theorem ok_Rule___lt__ {f : Addr} {fd : FuncData} (F : Fun K "__lt__" "Rule.__lt__" (clsS 16 5) f fd) (T : Txt mg K pl) (D_is_at_most : Def P w ⟨K, pl⟩ mg base "_is_at_most" 4 2 F_is_at_most) : FnG P w K mg base 5 f fd ["self", "other"] (SpF ⟨K, pl⟩ 2 F_Rule___lt__) := by
  refine def_ok (body := b_Rule___lt__) (B := []) (m := 0) F sc_Rule___lt__ rfl rfl fun cdv A outer s H E hr => ?_
  have nd := sc_Rule___lt__.nd
  have tk := takes_of (X := cxOf (L2.CX P w) P w K mg base ["self", "other"] "Rule.__lt__" (defScope (clsS 16 5)) f cdv A outer s H E) (E := E) rfl rfl rfl rfl
  have po := passes_of (X := cxOf (L2.CX P w) P w K mg base ["self", "other"] "Rule.__lt__" (defScope (clsS 16 5)) f cdv A outer s H E) rfl
  exact (qs_cons (qp_if (pt_not' (pt_any (x_isG [0, 1] [3, 4] T.is_1 rfl T.b_isinstance (pl_cons (px_name 1) (pl_cons (px_gl T.g_Rule rfl) pl_nil))))) (qs_one qp_never) qs_nil) (qs_one (qp_ret (px_and (px_call [.im, .im] D_is_at_most (hr.mono (by decide)) tk rfl (pl_cons (px_name 0) (pl_cons (px_name 1) pl_nil)) (len_cons (len_cons len_nil))) (px_one (px_not (px_call [.im, .im] D_is_at_most (hr.mono (by decide)) tk rfl (pl_cons (px_name 1) (pl_cons (px_name 0) pl_nil)) (len_cons (len_cons len_nil)))))))))
def ownLt : OwnT := [(1, F_Rule___lt__)]
theorem in_ownLt : ∀ p ∈ ownLt, p.1 ∈ ([0, 1] : List Nat) := by
  intro p hp
  simp only [ownLt, List.mem_cons, List.not_mem_nil, or_false] at hp
  rcases hp with rfl <;> simp
def ownLe : OwnT := [(1, F_Rule___le__)]
theorem in_ownLe : ∀ p ∈ ownLe, p.1 ∈ ([0, 1] : List Nat) := by
  intro p hp
  simp only [ownLe, List.mem_cons, List.not_mem_nil, or_false] at hp
  rcases hp with rfl <;> simp
def ownGe : OwnT := [(1, F_Rule___ge__)]
theorem in_ownGe : ∀ p ∈ ownGe, p.1 ∈ ([0, 1] : List Nat) := by
  intro p hp
  simp only [ownGe, List.mem_cons, List.not_mem_nil, or_false] at hp
  rcases hp with rfl <;> simp
def b_law_right : Env → SRes := fSeq (fPar 6 7 (fCons (fCall F_law_rule [.im] [] (fCons (fN 0) (fNil))) (fCons (fCall F_law_rule [.im] [] (fCons (fN 1) (fNil))) (fNil)))) (fSeq (fAsg (fAnd (fCmpO oLe ownLe [0, 1] false false (f2 ixO (fN 0) (fC (.int 1))) (f2 ixO (fN 1) (fC (.int 1)))) (fCmpO oLe ownLe [0, 1] false false (f2 oTimes (f2 ixO (fN 0) (fC (.int 0))) (f2 ixO (fN 0) (fC (.int 1)))) (f2 oTimes (f2 ixO (fN 1) (fC (.int 0))) (f2 ixO (fN 1) (fC (.int 1)))))) (sName 2)) (fSeq (fAsg (fAnd (fCmpO oGe ownGe [0, 1] false false (f2 ixO (fN 0) (fC (.int 1))) (f2 ixO (fN 1) (fC (.int 1)))) (fCmpO oGe ownGe [0, 1] false false (f2 oTimes (f2 ixO (fN 0) (fC (.int 0))) (f2 ixO (fN 0) (fC (.int 1)))) (f2 oTimes (f2 ixO (fN 1) (fC (.int 0))) (f2 ixO (fN 1) (fC (.int 1)))))) (sName 3)) (fSeq (fIfS (fOrT (fTb (fCmpO (eqO true) ownEq [0, 1] false true (fCmpO (eqO false) ownEq [0, 1] true false (fN 6) (fN 7)) (fCmpO (eqO false) ownEq [0, 1] true false (fN 0) (fN 1)))) (fTb (fCmpO (eqO true) ownEq [0, 1] false true (fCmpO (eqO true) ownEq [0, 1] false true (fN 6) (fN 7)) (fCmpO (eqO true) ownEq [0, 1] false true (fN 0) (fN 1))))) (fRet [] (fC (.bl false))) (fNx)) (fSeq (fIfS (fOrT (fTb (fCmpO (eqO true) ownEq [0, 1] false true (fCmpO oLe ownLe [0, 1] false false (fN 6) (fN 7)) (fN 2))) (fTb (fCmpO (eqO true) ownEq [0, 1] false true (fCmpO oGe ownGe [0, 1] false false (fN 6) (fN 7)) (fN 3)))) (fRet [] (fC (.bl false))) (fNx)) (fSeq (fAsg (fLst (fCons (fAnd (fN 3) (fCmpO (eqO true) ownEq [0, 1] false true (fN 0) (fN 1))) (fCons (fAnd (fN 2) (fCmpO (eqO true) ownEq [0, 1] false true (fN 0) (fN 1))) (fNil)))) (sName 4)) (fSeq (fIfS (fTb (fCmpO (eqO true) ownEq [0, 1] false true (fLst (fCons (fCmpO oGt ownGt [0, 1] false false (fN 6) (fN 7)) (fCons (fCmpO oLt ownLt [0, 1] false false (fN 6) (fN 7)) (fNil)))) (fN 4))) (fRet [] (fC (.bl false))) (fNx)) (fSeq (fIfS (fOrT (fTb (fCmpO (eqO true) ownEq [0, 1] false true (fTup (fCons (fMeth 1 "wait" (noEr F_Rule_wait) [.im] (fN 6) fNil) (fCons (fMeth 1 "turns" (noEr F_Rule_turns) [.im] (fN 6) fNil) (fNil)))) (fN 0))) (fTb (fCmpO (eqO true) ownEq [0, 1] false true (fTup (fCons (fMeth 1 "wait" (noEr F_Rule_wait) [.im] (fN 7) fNil) (fCons (fMeth 1 "turns" (noEr F_Rule_turns) [.im] (fN 7) fNil) (fNil)))) (fN 1)))) (fRet [] (fC (.bl false))) (fNx)) (fSeq (fAsg (fLst (fCons (fCmpO oLt ownLt [0, 1] false false (fN 6) (fN 7)) (fCons (fCmpO oGt ownGt [0, 1] false false (fN 6) (fN 7)) (fCons (fCmpO oGe ownGe [0, 1] false false (fN 6) (fN 7)) (fCons (fCmpO oLe ownLe [0, 1] false false (fN 6) (fN 7)) (fCons (fCmpO (eqO true) ownEq [0, 1] false true (fN 6) (fN 7)) (fCons (fCmpO (eqO false) ownEq [0, 1] true false (fN 6) (fN 7)) (fNil)))))))) (sName 5)) (fRet [] (fCmpO (eqO false) ownEq [0, 1] true false (fN 5) (f2F oPlus catO (fP oRev (fCons (fN 4) fNil)) (fLst (fCons (fN 3) (fCons (fN 2) (fCons (fCmpO (eqO true) ownEq [0, 1] false true (fN 0) (fN 1)) (fCons (fCmpO (eqO false) ownEq [0, 1] true false (fN 0) (fN 1)) (fNil)))))))))))))))))
def F_law_right : List O → FRes := fDef [] 6 b_law_right
theorem sc_law_right : FnScope ["_law_one", "_law_other", "_law_below", "_law_over", "_law_strict", "_law_again", "_law_mine", "_law_its"] ["_law_one", "_law_other"] (defScope (topS 26)) := ⟨rfl, rfl, rfl, by decide +kernel, rfl, by decide +kernel, by decide +kernel⟩
theorem ok_law_right {f : Addr} {fd : FuncData} (F : Fun K "_law_right" "_law_right" (topS 26) f fd) (T : Txt mg K pl) (D_Behavior___eq__ : Mth P w ⟨K, pl⟩ mg base 0 "__eq__" 1 1 F_Behavior___eq__) (D_Rule___eq__ : Mth P w ⟨K, pl⟩ mg base 1 "__eq__" 1 1 F_Rule___eq__) (D_Rule___le__ : Mth P w ⟨K, pl⟩ mg base 1 "__le__" 5 1 F_Rule___le__) (D_Rule___ge__ : Mth P w ⟨K, pl⟩ mg base 1 "__ge__" 5 1 F_Rule___ge__) (D_Rule___gt__ : Mth P w ⟨K, pl⟩ mg base 1 "__gt__" 5 1 F_Rule___gt__) (D_Rule___lt__ : Mth P w ⟨K, pl⟩ mg base 1 "__lt__" 5 1 F_Rule___lt__) (D_Rule_turns : Prp P w ⟨K, pl⟩ mg base 1 "turns" 1 F_Rule_turns) (D_Rule_wait : Prp P w ⟨K, pl⟩ mg base 1 "wait" 1 F_Rule_wait) (D_law_rule : Def P w ⟨K, pl⟩ mg base "_law_rule" 6 1 F_law_rule) : FnG P w K mg base 7 f fd ["_law_one", "_law_other"] (SpF ⟨K, pl⟩ 2 F_law_right) := by
  refine def_ok (body := b_law_right) (B := []) (m := 6) F sc_law_right rfl rfl fun cdv A outer s H E hr => ?_
  have nd := sc_law_right.nd
  have tk := takes_of (X := cxOf (L2.CX P w) P w K mg base ["_law_one", "_law_other", "_law_below", "_law_over", "_law_strict", "_law_again", "_law_mine", "_law_its"] "_law_right" (defScope (topS 26)) f cdv A outer s H E) (E := E) rfl rfl rfl rfl
  have po := passes_of (X := cxOf (L2.CX P w) P w K mg base ["_law_one", "_law_other", "_law_below", "_law_over", "_law_strict", "_law_again", "_law_mine", "_law_its"] "_law_right" (defScope (topS 26)) f cdv A outer s H E) rfl
  exact (qs_cons (qp_par 6 7 (by decide) (by decide) rfl nd rfl rfl (by decide) rfl rfl (pl_cons (px_call [.im] D_law_rule (hr.mono (by decide)) tk rfl (pl_cons (px_name 0) pl_nil) (len_cons len_nil)) (pl_cons (px_call [.im] D_law_rule (hr.mono (by decide)) tk rfl (pl_cons (px_name 1) pl_nil) (len_cons len_nil)) pl_nil))) (qs_cons (qp_set 2 (by decide) nd rfl (by first | exact Or.inl rfl | exact Or.inr rfl) (px_and (x_leO (n := 5) (own := ownLe) [0, 1] (OwnD.cons D_Rule___le__ (by decide) OwnD.nil) (hr.mono (by decide)) T.isok (fun p hp => T.cm p.1 (in_ownLe p hp)) (x_ix (px_name 0) px_int) (x_ix (px_name 1) px_int)) (px_one (x_leO (n := 5) (own := ownLe) [0, 1] (OwnD.cons D_Rule___le__ (by decide) OwnD.nil) (hr.mono (by decide)) T.isok (fun p hp => T.cm p.1 (in_ownLe p hp)) (x_times (x_ix (px_name 0) px_int) (x_ix (px_name 0) px_int)) (x_times (x_ix (px_name 1) px_int) (x_ix (px_name 1) px_int)))))) (qs_cons (qp_set 3 (by decide) nd rfl (by first | exact Or.inl rfl | exact Or.inr rfl) (px_and (x_geO (n := 5) (own := ownGe) [0, 1] (OwnD.cons D_Rule___ge__ (by decide) OwnD.nil) (hr.mono (by decide)) T.isok (fun p hp => T.cm p.1 (in_ownGe p hp)) (x_ix (px_name 0) px_int) (x_ix (px_name 1) px_int)) (px_one (x_geO (n := 5) (own := ownGe) [0, 1] (OwnD.cons D_Rule___ge__ (by decide) OwnD.nil) (hr.mono (by decide)) T.isok (fun p hp => T.cm p.1 (in_ownGe p hp)) (x_times (x_ix (px_name 0) px_int) (x_ix (px_name 0) px_int)) (x_times (x_ix (px_name 1) px_int) (x_ix (px_name 1) px_int)))))) (qs_cons (qp_if (PW.pt (pw_or' (t_neO (n := 1) (own := ownEq) [0, 1] (OwnD.cons D_Behavior___eq__ (by decide) (OwnD.cons D_Rule___eq__ (by decide) OwnD.nil)) (hr.mono (by decide)) T.isok (fun p hp => T.cm p.1 (in_ownEq p hp)) (x_eqO (n := 1) (own := ownEq) [0, 1] (OwnD.cons D_Behavior___eq__ (by decide) (OwnD.cons D_Rule___eq__ (by decide) OwnD.nil)) (hr.mono (by decide)) T.isok (fun p hp => T.cm p.1 (in_ownEq p hp)) (px_name 6) (px_name 7)) (x_eqO (n := 1) (own := ownEq) [0, 1] (OwnD.cons D_Behavior___eq__ (by decide) (OwnD.cons D_Rule___eq__ (by decide) OwnD.nil)) (hr.mono (by decide)) T.isok (fun p hp => T.cm p.1 (in_ownEq p hp)) (px_name 0) (px_name 1))) (pw_or1' (t_neO (n := 1) (own := ownEq) [0, 1] (OwnD.cons D_Behavior___eq__ (by decide) (OwnD.cons D_Rule___eq__ (by decide) OwnD.nil)) (hr.mono (by decide)) T.isok (fun p hp => T.cm p.1 (in_ownEq p hp)) (x_neO (n := 1) (own := ownEq) [0, 1] (OwnD.cons D_Behavior___eq__ (by decide) (OwnD.cons D_Rule___eq__ (by decide) OwnD.nil)) (hr.mono (by decide)) T.isok (fun p hp => T.cm p.1 (in_ownEq p hp)) (px_name 6) (px_name 7)) (x_neO (n := 1) (own := ownEq) [0, 1] (OwnD.cons D_Behavior___eq__ (by decide) (OwnD.cons D_Rule___eq__ (by decide) OwnD.nil)) (hr.mono (by decide)) T.isok (fun p hp => T.cm p.1 (in_ownEq p hp)) (px_name 0) (px_name 1)))))) (qs_one (qp_ret px_bl)) qs_nil) (qs_cons (qp_if (PW.pt (pw_or' (t_neO (n := 1) (own := ownEq) [0, 1] (OwnD.cons D_Behavior___eq__ (by decide) (OwnD.cons D_Rule___eq__ (by decide) OwnD.nil)) (hr.mono (by decide)) T.isok (fun p hp => T.cm p.1 (in_ownEq p hp)) (x_leO (n := 5) (own := ownLe) [0, 1] (OwnD.cons D_Rule___le__ (by decide) OwnD.nil) (hr.mono (by decide)) T.isok (fun p hp => T.cm p.1 (in_ownLe p hp)) (px_name 6) (px_name 7)) (px_name 2)) (pw_or1' (t_neO (n := 1) (own := ownEq) [0, 1] (OwnD.cons D_Behavior___eq__ (by decide) (OwnD.cons D_Rule___eq__ (by decide) OwnD.nil)) (hr.mono (by decide)) T.isok (fun p hp => T.cm p.1 (in_ownEq p hp)) (x_geO (n := 5) (own := ownGe) [0, 1] (OwnD.cons D_Rule___ge__ (by decide) OwnD.nil) (hr.mono (by decide)) T.isok (fun p hp => T.cm p.1 (in_ownGe p hp)) (px_name 6) (px_name 7)) (px_name 3))))) (qs_one (qp_ret px_bl)) qs_nil) (qs_cons (qp_set 4 (by decide) nd rfl (by first | exact Or.inl rfl | exact Or.inr rfl) (px_lst (pl_cons (px_and (px_name 3) (px_one (x_neO (n := 1) (own := ownEq) [0, 1] (OwnD.cons D_Behavior___eq__ (by decide) (OwnD.cons D_Rule___eq__ (by decide) OwnD.nil)) (hr.mono (by decide)) T.isok (fun p hp => T.cm p.1 (in_ownEq p hp)) (px_name 0) (px_name 1)))) (pl_cons (px_and (px_name 2) (px_one (x_neO (n := 1) (own := ownEq) [0, 1] (OwnD.cons D_Behavior___eq__ (by decide) (OwnD.cons D_Rule___eq__ (by decide) OwnD.nil)) (hr.mono (by decide)) T.isok (fun p hp => T.cm p.1 (in_ownEq p hp)) (px_name 0) (px_name 1)))) pl_nil)))) (qs_cons (qp_if (t_neO (n := 1) (own := ownEq) [0, 1] (OwnD.cons D_Behavior___eq__ (by decide) (OwnD.cons D_Rule___eq__ (by decide) OwnD.nil)) (hr.mono (by decide)) T.isok (fun p hp => T.cm p.1 (in_ownEq p hp)) (px_lst (pl_cons (x_gtO (n := 5) (own := ownGt) [0, 1] (OwnD.cons D_Rule___gt__ (by decide) OwnD.nil) (hr.mono (by decide)) T.isok (fun p hp => T.cm p.1 (in_ownGt p hp)) (px_name 6) (px_name 7)) (pl_cons (x_ltO (n := 5) (own := ownLt) [0, 1] (OwnD.cons D_Rule___lt__ (by decide) OwnD.nil) (hr.mono (by decide)) T.isok (fun p hp => T.cm p.1 (in_ownLt p hp)) (px_name 6) (px_name 7)) pl_nil))) (px_name 4)) (qs_one (qp_ret px_bl)) qs_nil) (qs_cons (qp_if (PW.pt (pw_or' (t_neO (n := 1) (own := ownEq) [0, 1] (OwnD.cons D_Behavior___eq__ (by decide) (OwnD.cons D_Rule___eq__ (by decide) OwnD.nil)) (hr.mono (by decide)) T.isok (fun p hp => T.cm p.1 (in_ownEq p hp)) (px_tup (pl_cons (px_prop 1 .im T.cl_1 D_Rule_wait (hr.mono (by decide)) (px_name 6)) (pl_cons (px_prop 1 .im T.cl_1 D_Rule_turns (hr.mono (by decide)) (px_name 6)) pl_nil))) (px_name 0)) (pw_or1' (t_neO (n := 1) (own := ownEq) [0, 1] (OwnD.cons D_Behavior___eq__ (by decide) (OwnD.cons D_Rule___eq__ (by decide) OwnD.nil)) (hr.mono (by decide)) T.isok (fun p hp => T.cm p.1 (in_ownEq p hp)) (px_tup (pl_cons (px_prop 1 .im T.cl_1 D_Rule_wait (hr.mono (by decide)) (px_name 7)) (pl_cons (px_prop 1 .im T.cl_1 D_Rule_turns (hr.mono (by decide)) (px_name 7)) pl_nil))) (px_name 1))))) (qs_one (qp_ret px_bl)) qs_nil) (qs_cons (qp_set 5 (by decide) nd rfl (by first | exact Or.inl rfl | exact Or.inr rfl) (px_lst (pl_cons (x_ltO (n := 5) (own := ownLt) [0, 1] (OwnD.cons D_Rule___lt__ (by decide) OwnD.nil) (hr.mono (by decide)) T.isok (fun p hp => T.cm p.1 (in_ownLt p hp)) (px_name 6) (px_name 7)) (pl_cons (x_gtO (n := 5) (own := ownGt) [0, 1] (OwnD.cons D_Rule___gt__ (by decide) OwnD.nil) (hr.mono (by decide)) T.isok (fun p hp => T.cm p.1 (in_ownGt p hp)) (px_name 6) (px_name 7)) (pl_cons (x_geO (n := 5) (own := ownGe) [0, 1] (OwnD.cons D_Rule___ge__ (by decide) OwnD.nil) (hr.mono (by decide)) T.isok (fun p hp => T.cm p.1 (in_ownGe p hp)) (px_name 6) (px_name 7)) (pl_cons (x_leO (n := 5) (own := ownLe) [0, 1] (OwnD.cons D_Rule___le__ (by decide) OwnD.nil) (hr.mono (by decide)) T.isok (fun p hp => T.cm p.1 (in_ownLe p hp)) (px_name 6) (px_name 7)) (pl_cons (x_neO (n := 1) (own := ownEq) [0, 1] (OwnD.cons D_Behavior___eq__ (by decide) (OwnD.cons D_Rule___eq__ (by decide) OwnD.nil)) (hr.mono (by decide)) T.isok (fun p hp => T.cm p.1 (in_ownEq p hp)) (px_name 6) (px_name 7)) (pl_cons (x_eqO (n := 1) (own := ownEq) [0, 1] (OwnD.cons D_Behavior___eq__ (by decide) (OwnD.cons D_Rule___eq__ (by decide) OwnD.nil)) (hr.mono (by decide)) T.isok (fun p hp => T.cm p.1 (in_ownEq p hp)) (px_name 6) (px_name 7)) pl_nil)))))))) (qs_one (qp_ret (x_eqO (n := 1) (own := ownEq) [0, 1] (OwnD.cons D_Behavior___eq__ (by decide) (OwnD.cons D_Rule___eq__ (by decide) OwnD.nil)) (hr.mono (by decide)) T.isok (fun p hp => T.cm p.1 (in_ownEq p hp)) (px_name 5) (x_plus2 (x_rev (px_name 4)) (px_lst (pl_cons (px_name 3) (pl_cons (px_name 2) (pl_cons (x_neO (n := 1) (own := ownEq) [0, 1] (OwnD.cons D_Behavior___eq__ (by decide) (OwnD.cons D_Rule___eq__ (by decide) OwnD.nil)) (hr.mono (by decide)) T.isok (fun p hp => T.cm p.1 (in_ownEq p hp)) (px_name 0) (px_name 1)) (pl_cons (x_eqO (n := 1) (own := ownEq) [0, 1] (OwnD.cons D_Behavior___eq__ (by decide) (OwnD.cons D_Rule___eq__ (by decide) OwnD.nil)) (hr.mono (by decide)) T.isok (fun p hp => T.cm p.1 (in_ownEq p hp)) (px_name 0) (px_name 1)) pl_nil))))))))))))))))))
def wlaw_0 : Env → Res Bool := fNotT (fTr (fCall F_law_right [.im, .im] [] (fCons (fN 8) (fCons (fN 9) (fNil)))))
def wlaw_1 : Env → Res AO := fN 9
def wlaw_2 : Env → Res Bool := fTb (fCmpO (eqO true) ownEq [0, 1] false true (fLcOn itL [9] (sName 9) (wlaw_0) (fN 3) (wlaw_1)) (fLst (fNil)))
def wlaw_3 : Env → Res AO := fN 8
def wlaw_4 : Env → SRes := fSeq (fAsg (fCall F_law_rule [.im] [] (fCons (fN 4) (fNil))) (sName 5)) (fSeq (fIfS (fOrT (fTb (fCmpO (eqO true) ownEq [0, 1] false true (fTup (fCons (fMeth 1 "wait" (noEr F_Rule_wait) [.im] (fN 5) fNil) (fCons (fMeth 1 "turns" (noEr F_Rule_turns) [.im] (fN 5) fNil) (fNil)))) (fN 4))) (fNotT (fTr (fCall F_law_alone [.im, .im] [] (fCons (fN 5) (fCons (fN 4) (fNil))))))) (fRet [] (fC (.bl false))) (fNx)) (fSeq (fAsg (fMake 1 F_Rule___init__ [.im] [.int 1] (fCons (f2 ixO (fN 4) (fC (.int 0))) (fNil))) (sName 6)) (fIfS (fTb (fCmpO (eqO true) ownEq [0, 1] false true (fTup (fCons (fMeth 1 "wait" (noEr F_Rule_wait) [.im] (fN 6) fNil) (fCons (fMeth 1 "turns" (noEr F_Rule_turns) [.im] (fN 6) fNil) (fNil)))) (fTup (fCons (f2 ixO (fN 4) (fC (.int 0))) (fCons (fC (.int 1)) (fNil)))))) (fRet [] (fC (.bl false))) (fNx))))
def wlaw_5 : Env → Res AO := fCall F_law_numbers [.bw] [] (fCons (fN 2) (fNil))
def wlaw_6 : Env → SRes := fSeq (fAsg (fCall F_law_purse [.im, .im] [] (fCons (fN 0) (fCons (fN 1) (fNil)))) (sName 2)) (fSeq (fAsg (fLcR rng1 [7] (sName 7) (fYes) (fCons (fC (.int 4)) (fNil)) (wlaw_5)) (sName 3)) (fSeq (fDrop (fApp 3 (fCons (fTup (fCons (f2 ixO (f2 ixO (fN 3) (fC (.int 0))) (fC (.int 0))) (fCons (f2 ixO (f2 ixO (fN 3) (fC (.int 1))) (fC (.int 1))) (fNil)))) (fNil)))) (fSeq (fDrop (fApp 3 (fCons (fTup (fCons (f2 oMod (f2 oTimes (f2 ixO (f2 ixO (fN 3) (fC (.int 0))) (fC (.int 0))) (f2 ixO (f2 ixO (fN 3) (fC (.int 0))) (fC (.int 1)))) (f2 oPow (fC (.int 10)) (fC (.int 40)))) (fCons (fC (.int 1)) (fNil)))) (fNil)))) (fSeq (fFor itL (fN 3) (sName 4) (wlaw_4)) (fIfS (fTb (fCmpO (eqO true) ownEq [0, 1] false true (fLcOn itL [8] (sName 8) (wlaw_2) (fN 3) (wlaw_3)) (fLst (fNil)))) (fRet [] (fC (.bl false))) (fNx))))))
def blaw : Env → SRes := fSeq (fForR rng1 (fCons (fC (.int 3)) (fNil)) (sName 1) (wlaw_6)) (fRet [] (fCall0 F_law_refused))
def Flaw : List O → FRes := fDef [] 9 blaw
theorem sclaw : FnScope ["_law_script", "_law_cell", "_law_purse_here", "_law_some", "_law_parts", "_law_rule_here", "_law_alone_here", "_law_turn", "_law_one", "_law_other"] ["_law_script"] (defScope (topS 30)) := ⟨rfl, rfl, rfl, by decide +kernel, rfl, by decide +kernel, by decide +kernel⟩
theorem oklaw {f : Addr} {fd : FuncData} (F : Fun K "law" "law" (topS 30) f fd) (T : Txt mg K pl) (D_law_refused : Def P w ⟨K, pl⟩ mg base "_law_refused" 9 0 F_law_refused) (D_law_right : Def P w ⟨K, pl⟩ mg base "_law_right" 7 2 F_law_right) (D_Behavior___eq__ : Mth P w ⟨K, pl⟩ mg base 0 "__eq__" 1 1 F_Behavior___eq__) (D_Rule___eq__ : Mth P w ⟨K, pl⟩ mg base 1 "__eq__" 1 1 F_Rule___eq__) (D_Rule_turns : Prp P w ⟨K, pl⟩ mg base 1 "turns" 1 F_Rule_turns) (D_Rule_wait : Prp P w ⟨K, pl⟩ mg base 1 "wait" 1 F_Rule_wait) (D_Rule___init___1 : Kls P w ⟨K, pl⟩ mg base "Rule" 1 4 1 [.int 1] F_Rule___init__) (D_law_alone : Def P w ⟨K, pl⟩ mg base "_law_alone" 9 2 F_law_alone) (D_law_rule : Def P w ⟨K, pl⟩ mg base "_law_rule" 6 1 F_law_rule) (D_law_numbers : Def P w ⟨K, pl⟩ mg base "_law_numbers" 8 1 F_law_numbers) (D_law_purse : Def P w ⟨K, pl⟩ mg base "_law_purse" 1 2 F_law_purse) : FnG P w K mg base 10 f fd ["_law_script"] (SpF ⟨K, pl⟩ 1 Flaw) := by
  refine def_ok (body := blaw) (B := []) (m := 9) F sclaw rfl rfl fun cdv A outer s H E hr => ?_
  have nd := sclaw.nd
  have tk := takes_of (X := cxOf (L2.CX P w) P w K mg base ["_law_script", "_law_cell", "_law_purse_here", "_law_some", "_law_parts", "_law_rule_here", "_law_alone_here", "_law_turn", "_law_one", "_law_other"] "law" (defScope (topS 30)) f cdv A outer s H E) (E := E) rfl rfl rfl rfl
  have po := passes_of (X := cxOf (L2.CX P w) P w K mg base ["_law_script", "_law_cell", "_law_purse_here", "_law_some", "_law_parts", "_law_rule_here", "_law_alone_here", "_law_turn", "_law_one", "_law_other"] "law" (defScope (topS 30)) f cdv A outer s H E) rfl
  exact (qs_cons (qp_range1 po rfl (tg_name (by decide)) rfl T.b_range (pl_cons px_int pl_nil) (pg_name nd rfl (by first | exact Or.inl rfl | exact Or.inr rfl)) (qs_cons (qp_set 2 (by decide) nd rfl (by first | exact Or.inl rfl | exact Or.inr rfl) (px_call [.im, .im] D_law_purse (hr.mono (by decide)) tk rfl (pl_cons (px_name 0) (pl_cons (px_name 1) pl_nil)) (len_cons (len_cons len_nil)))) (qs_cons (qp_set 3 (by decide) nd rfl (by first | exact Or.inl rfl | exact Or.inr rfl) (px_lcR1 (own := [("_law_turn", 7)]) rfl nd rfl T.b_range (pl_cons px_int pl_nil) (blkOk_by (show blkC ["_law_script", "_law_cell", "_law_purse_here", "_law_some", "_law_parts", "_law_rule_here", "_law_alone_here", "_law_turn", "_law_one", "_law_other"] (defScope (topS 30)) _ _ = true by decide +kernel)) (fun _ _ _ _ _ => (pg_name nd rfl (by first | exact Or.inl rfl | exact Or.inr rfl))) (tgw_name (by decide)) (fun _ _ _ _ _ => pts_yes) (fun _ _ _ _ _ => (px_call [.bw] D_law_numbers (hr.mono (by decide)) takes0 rfl (pl_cons (px_name 2) pl_nil) (len_cons len_nil))))) (qs_cons (qp_expr (x_app (px_name 3) (pl_cons (px_tup (pl_cons (x_ix (x_ix (px_name 3) px_int) px_int) (pl_cons (x_ix (x_ix (px_name 3) px_int) px_int) pl_nil))) pl_nil))) (qs_cons (qp_expr (x_app (px_name 3) (pl_cons (px_tup (pl_cons (x_mod (x_times (x_ix (x_ix (px_name 3) px_int) px_int) (x_ix (x_ix (px_name 3) px_int) px_int)) (x_pow px_int px_int)) (pl_cons px_int pl_nil))) pl_nil))) (qs_cons (qp_for po rfl (tg_name (by decide)) (px_name 3) (pg_name nd rfl (by first | exact Or.inl rfl | exact Or.inr rfl)) (qs_cons (qp_set 5 (by decide) nd rfl (by first | exact Or.inl rfl | exact Or.inr rfl) (px_call [.im] D_law_rule (hr.mono (by decide)) tk rfl (pl_cons (px_name 4) pl_nil) (len_cons len_nil))) (qs_cons (qp_if (PW.pt (pw_or' (t_neO (n := 1) (own := ownEq) [0, 1] (OwnD.cons D_Behavior___eq__ (by decide) (OwnD.cons D_Rule___eq__ (by decide) OwnD.nil)) (hr.mono (by decide)) T.isok (fun p hp => T.cm p.1 (in_ownEq p hp)) (px_tup (pl_cons (px_prop 1 .im T.cl_1 D_Rule_wait (hr.mono (by decide)) (px_name 5)) (pl_cons (px_prop 1 .im T.cl_1 D_Rule_turns (hr.mono (by decide)) (px_name 5)) pl_nil))) (px_name 4)) (pw_or1' (pt_not' (pt_any (px_call [.im, .im] D_law_alone (hr.mono (by decide)) tk rfl (pl_cons (px_name 5) (pl_cons (px_name 4) pl_nil)) (len_cons (len_cons len_nil)))))))) (qs_one (qp_ret px_bl)) qs_nil) (qs_cons (qp_set 6 (by decide) nd rfl (by first | exact Or.inl rfl | exact Or.inr rfl) (px_make [.im] D_Rule___init___1 (hr.mono (by decide)) tk rfl (pl_cons (x_ix (px_name 4) px_int) pl_nil) (len_cons len_nil))) (qs_one (qp_if (t_neO (n := 1) (own := ownEq) [0, 1] (OwnD.cons D_Behavior___eq__ (by decide) (OwnD.cons D_Rule___eq__ (by decide) OwnD.nil)) (hr.mono (by decide)) T.isok (fun p hp => T.cm p.1 (in_ownEq p hp)) (px_tup (pl_cons (px_prop 1 .im T.cl_1 D_Rule_wait (hr.mono (by decide)) (px_name 6)) (pl_cons (px_prop 1 .im T.cl_1 D_Rule_turns (hr.mono (by decide)) (px_name 6)) pl_nil))) (px_tup (pl_cons (x_ix (px_name 4) px_int) (pl_cons px_int pl_nil)))) (qs_one (qp_ret px_bl)) qs_nil)))))) (qs_one (qp_if (t_neO (n := 1) (own := ownEq) [0, 1] (OwnD.cons D_Behavior___eq__ (by decide) (OwnD.cons D_Rule___eq__ (by decide) OwnD.nil)) (hr.mono (by decide)) T.isok (fun p hp => T.cm p.1 (in_ownEq p hp)) (px_lcL (own := [("_law_one", 8)]) rfl nd (px_name 3) (blkOk_by (show blkC ["_law_script", "_law_cell", "_law_purse_here", "_law_some", "_law_parts", "_law_rule_here", "_law_alone_here", "_law_turn", "_law_one", "_law_other"] (defScope (topS 30)) _ _ = true by decide +kernel)) (fun _ _ _ _ _ => (pg_name nd rfl (by first | exact Or.inl rfl | exact Or.inr rfl))) (tgw_name (by decide)) (fun _ _ _ _ _ => (pts_one' (t_neO (n := 1) (own := ownEq) [0, 1] (OwnD.cons D_Behavior___eq__ (by decide) (OwnD.cons D_Rule___eq__ (by decide) OwnD.nil)) (hr.mono (by decide)) T.isok (fun p hp => T.cm p.1 (in_ownEq p hp)) (px_lcL (own := [("_law_other", 9)]) rfl nd (px_name 3) (blkOk_by rfl) (fun _ _ _ _ _ => (pg_name nd rfl (by first | exact Or.inl rfl | exact Or.inr rfl))) (tgw_name (by decide)) (fun _ _ _ _ _ => (pts_one' (pt_not' (pt_any (px_call [.im, .im] D_law_right (hr.mono (by decide)) takes0 rfl (pl_cons (px_name 8) (pl_cons (px_name 9) pl_nil)) (len_cons (len_cons len_nil))))))) (fun _ _ _ _ _ => (px_name 9))) (px_lst pl_nil)))) (fun _ _ _ _ _ => (px_name 8))) (px_lst pl_nil)) (qs_one (qp_ret px_bl)) qs_nil)))))))) (qs_one (qp_ret (px_call0 D_law_refused (hr.mono (by decide)) tk rfl))))
end
end PV

set_option Elab.async false
set_option linter.all false
set_option maxRecDepth 100000
set_option maxHeartbeats 4000000
namespace PV
open PySem L2
def mixed (c k : Int) : Int :=
  let n := (c * 1103515245 + 7919 * k * k + k + 1) % 2147483647
  (n * n + 69621) % 2147483629 * 48271 % 2147483587
theorem m_mixed {c k : Int} (h1 : 0 ≤ c) (h2 : c < 2 ^ 100) (h3 : 0 ≤ k) (h4 : k < 2 ^ 100) : F_law_mixed [.im (.int c), .im (.int k)] = .ok (.im (.int (mixed c k))) [.im (.int c), .im (.int k)] := by
  simp (disch := omega) [F_law_mixed, b_law_mixed, o_Times, cMod_s, mixed]
theorem mixed_nn (c k : Int) : 0 ≤ mixed c k := Int.emod_nonneg _ (by decide)
theorem mixed_lt (c k : Int) : mixed c k < 2147483587 := Int.emod_lt_of_pos _ (by decide)
abbrev pur (a b c : Int) : O := .ls [.im (.int a), .im (.int b), .im (.int c)]
abbrev I (n : Int) : O := .im (.int n)
theorem draw_turn {a b c n num : Int} {x3 x4 : Option O} (hb : 0 ≤ b) (hb2 : b < 2 ^ 100) (hc : 0 ≤ c) (hc2 : c < 2 ^ 90) (hn : 0 ≤ num) (hn2 : num < 2 ^ 180) :
    w_law_draw_0 [some (pur a b c), some (I n), some (I num), x3, x4] = .nx [some (pur a b (c + 1)), some (I n), some (I (num * 2147483587 + mixed b (c + 1))), x3, x4] := by
  have e := m_mixed (c := b) (k := c + 1) hb hb2 (by omega) (by omega)
  simp (disch := omega) [w_law_draw_0, o_Times, e]

theorem draw_loop {a b n : Int} {x4 : Option O} (hb : 0 ≤ b) (hb2 : b < 2 ^ 100) : ∀ (ds : List D) (c num : Int) (t : Nat) (x3 : Option O), ds.length + t ≤ 6 → 0 ≤ num → num < 2 ^ (32 * t) → 0 ≤ c → c + ds.length < 2 ^ 90 →
    ∃ num' x3', runFor (sName 3) w_law_draw_0 ds [some (pur a b c), some (I n), some (I num), x3, x4] = .nx [some (pur a b (c + ds.length)), some (I n), some (I num'), x3', x4] ∧ 0 ≤ num'
  | [], c, num, t, x3, _, h1, _, _, _ => ⟨num, x3, by rw [loop_nil]; simp, h1⟩
  | d :: ds, c, num, t, x3, ht, h1, h2, h3, h4 => by
    simp only [List.length_cons] at ht h4 ⊢
    have hp : (2 : Int) ^ (32 * t) ≤ 2 ^ 160 := by
      have : t = 0 ∨ t = 1 ∨ t = 2 ∨ t = 3 ∨ t = 4 ∨ t = 5 := by omega
      rcases this with rfl | rfl | rfl | rfl | rfl | rfl <;> decide
    have hs : (2 : Int) ^ (32 * (t + 1)) = 2 ^ (32 * t) * 4294967296 := by
      rw [Nat.mul_add, Int.pow_add]; rfl
    have m1 := mixed_nn b (c + 1)
    have m2 := mixed_lt b (c + 1)
    obtain ⟨num', x3', e, hn⟩ := draw_loop hb hb2 ds (c + 1) (num * 2147483587 + mixed b (c + 1)) (t + 1) (some (.im d)) (by omega) (by omega) (by rw [hs]; omega) (by omega) (by omega)
    refine ⟨num', x3', ?_, hn⟩
    rw [loop_cons]
    have e2 := draw_turn (a := a) (b := b) (c := c) (n := n) (num := num) (x3 := some (.im d)) (x4 := x4) hb hb2 h3 (by omega) h1 (by omega)
    simp only [e_Name, List.length_cons, List.length_nil, List.set_cons_succ, List.set_cons_zero]
    rw [if_pos (by decide), sopt_some, sq_nx, e2, lp_nx, e]
    rw [show c + 1 + (ds.length : Int) = c + ((ds.length + 1 : Nat) : Int) by omega]
theorem bits_le {n : Int} (h1 : 0 < n) (h2 : n < 2 ^ 150) : 1 ≤ Builtin.Int.intBits n ∧ Builtin.Int.intBits n ≤ 150 := by
  have h3 : n.natAbs < 2 ^ 150 := by omega
  have h4 : n.natAbs.log2 < 150 := (Nat.log2_lt (by omega)).mpr h3
  have e : Builtin.Int.intBits n = n.natAbs.log2 + 1 := if_neg (by simp; omega)
  rw [e]
  exact ⟨Nat.le_add_left _ _, h4⟩
theorem m_draw1 {a b c n : Int} (ha : 0 < a) (hn : 0 < n) (hn2 : n < 2 ^ 150) : F_law_draw [pur a b c, I n] = .ok (I (a % n)) [pur (a / n) b c, I n] := by
  simp (disch := omega) [F_law_draw, b_law_draw, cMod_s, cDiv_s, ha]

theorem m_draw2 {b c n num' : Int} {x3' : Option O} (hn : 0 < n) (hn2 : n < 2 ^ 150) (k : Int) (hk : ((Builtin.Int.intBits n : Nat) : Int) / 30 = k) (i62 : in62 (1 + k) = true) (c' : Int)
    (e : runFor (sName 3) w_law_draw_0 (rngD 0 (1 + k).toNat) [some (pur 0 b c), some (I n), some (I 0), none, none] = .nx [some (pur 0 b c'), some (I n), some (I num'), x3', none]) : F_law_draw [pur 0 b c, I n] = .ok (I (num' % n)) [pur 0 b c', I n] := by
  simp (config := {implicitDefEqProofs := false}) (disch := omega) [F_law_draw, b_law_draw, cMod_s, cDiv_s, hk, i62, e]
/-- one draw -/
theorem m_draw {a b c n : Int} (ha : 0 ≤ a) (hb : 0 ≤ b) (hb2 : b < 2 ^ 100) (hc : 0 ≤ c) (hc2 : c < 2 ^ 80) (hn : 0 < n) (hn2 : n < 2 ^ 150) :
    ∃ v a' c', F_law_draw [pur a b c, I n] = .ok (I v) [pur a' b c', I n] ∧ 0 ≤ v ∧ v < n ∧ 0 ≤ a' ∧ c ≤ c' ∧ c' ≤ c + 6 := by
  by_cases h : 0 < a
  · exact ⟨a % n, a / n, c, m_draw1 h hn hn2, Int.emod_nonneg _ (by omega), Int.emod_lt_of_pos _ hn, Int.ediv_nonneg ha (by omega), by omega, by omega⟩
  · have ea : a = 0 := by omega
    subst ea
    obtain ⟨q1, q2⟩ := bits_le hn hn2
    obtain ⟨k, hk⟩ : ∃ k, ((Builtin.Int.intBits n : Nat) : Int) / 30 = k := ⟨_, rfl⟩
    have k0 : k ≤ 5 := by omega
    have k1 : 0 ≤ k := by omega
    have len : (rngD 0 (1 + k).toNat).length = (1 + k).toNat := by simp [rngD]
    obtain ⟨num', x3', e, hn'⟩ := draw_loop (a := 0) (b := b) (n := n) (x4 := none) hb hb2 (rngD 0 (1 + k).toNat) c 0 0 none (by rw [len]; omega) (by omega) (by decide) hc (by rw [len]; omega)
    rw [len] at e
    have i62 : in62 (1 + k) = true := in62_s (by omega) (by omega)
    exact ⟨num' % n, 0, c + (1 + k).toNat, m_draw2 hn hn2 k hk i62 _ e, Int.emod_nonneg _ (by omega), Int.emod_lt_of_pos _ hn, by omega, by omega, by omega⟩
/-- the purse of a script at a place -/
theorem m_purse (ns : List Int) (k : Int) (h0 : 0 ≤ k) (h1 : k ≤ 63) : ∃ a b, F_law_purse [.im (.scr ns), I k] = .ok (pur a b (1000 * k)) [.im (.scr ns), I k] ∧ 0 ≤ a ∧ 0 ≤ b ∧ b < 2 ^ 100 := by
  have w1 : cPow 10 18 = true := by decide +kernel
  have w2 : cPow 10 60 = true := by decide +kernel
  have w3 : cPow (10 ^ 60) 10 = true := by decide +kernel
  obtain ⟨ms, hm⟩ := sl_scr ns (some k) (some (k + 1))
  have hs := sum_ints ms
  rw [List.map_map] at hs
  simp only [Int.reducePow] at w3
  refine ⟨max (ms.sum - 10 ^ 18) 0 % (10 ^ 60) ^ 10, ms.sum % 2147483647, ?_, Int.emod_nonneg _ (by decide +kernel), Int.emod_nonneg _ (by decide), ?_⟩
  · simp (config := {implicitDefEqProofs := false}) (disch := omega) [F_law_purse, b_law_purse, w1, w2, w3, cMod_s, o_Times, hm, hs]
  · have := Int.emod_lt_of_pos ms.sum (show (0 : Int) < 2147483647 by decide)
    omega
/-- two drawn numbers -/
theorem m_numbers {a b c : Int} (ha : 0 ≤ a) (hb : 0 ≤ b) (hb2 : b < 2 ^ 100) (hc : 0 ≤ c) (hc2 : c < 2 ^ 70) :
    ∃ x y a' c', F_law_numbers [pur a b c] = .ok (.im (.tup [.int x, .int y])) [pur a' b c'] ∧ 0 ≤ x ∧ x < 10 ^ 29 ∧ 1 ≤ y ∧ y ≤ 10 ^ 20 ∧ 0 ≤ a' ∧ c ≤ c' ∧ c' ≤ c + 48 := by
  obtain ⟨v1, a1, c1, e1, p1, q1, r1, s1, t1⟩ := m_draw (n := 4) ha hb hb2 hc (by omega) (by decide) (by decide)
  obtain ⟨v2, a2, c2, e2, p2, q2, r2, s2, t2⟩ := m_draw (n := 60) r1 hb hb2 (c := c1) (by omega) (by omega) (by decide) (by decide)
  obtain ⟨v3, a3, c3, e3, p3, q3, r3, s3, t3⟩ := m_draw (n := 100000000000000000000000000000) r2 hb hb2 (c := c2) (by omega) (by omega) (by decide) (by decide)
  obtain ⟨v4, a4, c4, e4, p4, q4, r4, s4, t4⟩ := m_draw (n := 4) r3 hb hb2 (c := c3) (by omega) (by omega) (by decide) (by decide)
  obtain ⟨v5, a5, c5, e5, p5, q5, r5, s5, t5⟩ := m_draw (n := 9) r4 hb hb2 (c := c4) (by omega) (by omega) (by decide) (by decide)
  obtain ⟨v6, a6, c6, e6, p6, q6, r6, s6, t6⟩ := m_draw (n := 60) r5 hb hb2 (c := c5) (by omega) (by omega) (by decide) (by decide)
  obtain ⟨v7, a7, c7, e7, p7, q7, r7, s7, t7⟩ := m_draw (n := 100000000000000000000) r6 hb hb2 (c := c6) (by omega) (by omega) (by decide) (by decide)
  obtain ⟨v8, a8, c8, e8, p8, q8, r8, s8, t8⟩ := m_draw (n := 4) r7 hb hb2 (c := c7) (by omega) (by omega) (by decide) (by decide)
  have w1 : cPow 10 29 = true := by decide +kernel
  have w2 : cPow 10 20 = true := by decide +kernel
  have x1 : ∃ x, atI [D.int 0, .int v1, .int v2, .int v3] v4 = some (.int x) ∧ 0 ≤ x ∧ x < 10 ^ 29 := by
    have : v4 = 0 ∨ v4 = 1 ∨ v4 = 2 ∨ v4 = 3 := by omega
    rcases this with rfl | rfl | rfl | rfl
    · exact ⟨0, at_0 _ _, by omega, by omega⟩
    · exact ⟨v1, at_1 _ _ _, by omega, by omega⟩
    · exact ⟨v2, at_2 _ _ _ _, by omega, by omega⟩
    · exact ⟨v3, at_3 _ _ _ _ _, by omega, by omega⟩
  have x2 : ∃ x, atI [D.int 1, .int (1 + v5), .int (1 + v6), .int (1 + v7)] v8 = some (.int x) ∧ 1 ≤ x ∧ x ≤ 10 ^ 20 := by
    have : v8 = 0 ∨ v8 = 1 ∨ v8 = 2 ∨ v8 = 3 := by omega
    rcases this with rfl | rfl | rfl | rfl
    · exact ⟨1, at_0 _ _, by omega, by omega⟩
    · exact ⟨1 + v5, at_1 _ _ _, by omega, by omega⟩
    · exact ⟨1 + v6, at_2 _ _ _ _, by omega, by omega⟩
    · exact ⟨1 + v7, at_3 _ _ _ _ _, by omega, by omega⟩
  obtain ⟨x, ex, hx⟩ := x1
  obtain ⟨y, ey, hy⟩ := x2
  refine ⟨x, y, a8, c8, ?_, hx.1, hx.2, hy.1, hy.2, r8, by omega, by omega⟩
  simp (config := {implicitDefEqProofs := false}) [F_law_numbers, b_law_numbers, e1, e2, e3, e4, e5, e6, e7, e8, ex, ey, w1, w2]
end PV

set_option Elab.async false
set_option linter.all false
set_option maxRecDepth 100000
set_option maxHeartbeats 4000000
namespace PV
open PySem L2
abbrev rul (a b : Int) : D := .ins 1 [("_wait", .int a), ("_turns", .int b)]
abbrev rulO (a b : Int) : O := .ob 1 ["_wait", "_turns"] [I a, I b]
theorem rulO_d (a b : Int) : (rulO a b).d = rul a b := rfl
theorem m_at_least (v low : Int) : Fis_at_least [I v, I low] = .ok (.im (.bl (decide (low ≤ v)))) [I v, I low] := by
  simp (config := {implicitDefEqProofs := false}) [Fis_at_least, bis_at_least, Fis_whole, bis_whole, isTy]
theorem m_check {v low : Int} (h : low ≤ v) : Fcheck_at_least [I v, I low] = .ok (.im .non) [I v, I low] := by
  simp (config := {implicitDefEqProofs := false}) [Fcheck_at_least, bcheck_at_least, m_at_least, h]
theorem k1 : (Str.ofString "_wait" = Str.ofString "_turns") = False := eq_false (by decide +kernel)
theorem k2 : (Str.ofString "_turns" == Str.ofString "_wait") = false := by decide +kernel
theorem m_init {a b : Int} (ha : 0 ≤ a) (hb : 1 ≤ b) : F_Rule___init__ [.ob 1 [] [], I a, I b] = .ok (.im .non) [rulO a b, I a, I b] := by
  simp (config := {implicitDefEqProofs := false}) [F_Rule___init__, b_Rule___init__, m_check ha, m_check hb, putO, k1]
theorem m_rule {a b : Int} (ha : 0 ≤ a) (hb : 1 ≤ b) : F_law_rule [.im (.tup [.int a, .int b])] = .ok (rulO a b) [.im (.tup [.int a, .int b])] := by
  simp (config := {implicitDefEqProofs := false}) [F_law_rule, b_law_rule, m_init ha hb]
theorem m_eq (a b c d : Int) : F_Rule___eq__ [.im (rul a b), .im (rul c d)] = .ok (.im (.bl (a == c && b == d))) [.im (rul a b), .im (rul c d)] := by
  by_cases h : a = c <;> simp (config := {implicitDefEqProofs := false}) [F_Rule___eq__, b_Rule___eq__, isG_ins, List.lookup_cons, k2, h]
theorem m_wait (a b : Int) : F_Rule_wait [.im (rul a b)] = .ok (I a) [.im (rul a b)] := by
  simp (config := {implicitDefEqProofs := false}) [F_Rule_wait, b_Rule_wait]
theorem m_turns (a b : Int) : F_Rule_turns [.im (rul a b)] = .ok (I b) [.im (rul a b)] := by
  simp (config := {implicitDefEqProofs := false}) [F_Rule_turns, b_Rule_turns, List.lookup_cons, k2]
theorem m_eqD (a b : Int) {d : D} {t : String} (h : tyD d = some t) (hk : t ∈ kinds) (hx : excN (.im d) = none) : F_Rule___eq__ [.im (rul a b), .im d] = .ok (.im (.bl false)) [.im (rul a b), .im d] := by
  simp (config := {implicitDefEqProofs := false}) [F_Rule___eq__, b_Rule___eq__, isG_data h hk hx]
theorem m_eqB (a b : Int) (fs : List (Str × D)) : F_Rule___eq__ [.im (rul a b), .im (.ins 0 fs)] = .ok (.im (.bl false)) [.im (rul a b), .im (.ins 0 fs)] := by
  simp (config := {implicitDefEqProofs := false}) [F_Rule___eq__, b_Rule___eq__, isG_ins]
theorem m_Beq (a b : Int) (fs : List (Str × D)) : F_Behavior___eq__ [.im (.ins 0 fs), .im (rul a b)] = .ok (.im (.bl false)) [.im (.ins 0 fs), .im (rul a b)] := by
  simp (config := {implicitDefEqProofs := false}) [F_Behavior___eq__, b_Behavior___eq__, isG_ins]
theorem k3 {a b : Int} : List.lookup (Str.ofString "wait") [(Str.ofString "_wait", D.int a), (Str.ofString "_turns", D.int b)] = none := by
  have e1 : (Str.ofString "wait" == Str.ofString "_wait") = false := by decide +kernel
  have e2 : (Str.ofString "wait" == Str.ofString "_turns") = false := by decide +kernel
  simp [List.lookup_cons, e1, e2]
theorem k4 {a b : Int} : List.lookup (Str.ofString "turns") [(Str.ofString "_wait", D.int a), (Str.ofString "_turns", D.int b)] = none := by
  have e1 : (Str.ofString "turns" == Str.ofString "_wait") = false := by decide +kernel
  have e2 : (Str.ofString "turns" == Str.ofString "_turns") = false := by decide +kernel
  simp [List.lookup_cons, e1, e2]
theorem m_product {a b : Int} (h1 : 0 ≤ a) (h2 : a < 2 ^ 199) (h3 : 0 ≤ b) (h4 : b < 2 ^ 199) : F_product [.im (rul a b)] = .ok (I (b * a)) [.im (rul a b)] := by
  simp (config := {implicitDefEqProofs := false}) (disch := omega) [F_product, b_product, m_wait, m_turns, k3, k4, o_Times]
structure Ok2 (a b : Int) : Prop where
  h1 : 0 ≤ a
  h2 : a < 2 ^ 199
  h3 : 1 ≤ b
  h4 : b < 2 ^ 199
/-- at most -/
def atm (a b c d : Int) : Bool := decide (b ≤ d) && decide (b * a ≤ d * c)
theorem m_at_most {a b c d : Int} (x : Ok2 a b) (y : Ok2 c d) : F_is_at_most [.im (rul a b), .im (rul c d)] = .ok (.im (.bl (atm a b c d))) [.im (rul a b), .im (rul c d)] := by
  have p1 := m_product x.h1 x.h2 (by have := x.h3; omega) x.h4
  have p2 := m_product y.h1 y.h2 (by have := y.h3; omega) y.h4
  by_cases h : b ≤ d <;> simp (config := {implicitDefEqProofs := false}) [F_is_at_most, b_is_at_most, m_turns, k4, p1, p2, atm, h]
theorem m_le {a b c d : Int} (x : Ok2 a b) (y : Ok2 c d) : F_Rule___le__ [.im (rul a b), .im (rul c d)] = .ok (.im (.bl (atm a b c d))) [.im (rul a b), .im (rul c d)] := by
  simp (config := {implicitDefEqProofs := false}) [F_Rule___le__, b_Rule___le__, isG_ins, m_at_most x y]
theorem m_ge {a b c d : Int} (x : Ok2 a b) (y : Ok2 c d) : F_Rule___ge__ [.im (rul a b), .im (rul c d)] = .ok (.im (.bl (atm c d a b))) [.im (rul a b), .im (rul c d)] := by
  simp (config := {implicitDefEqProofs := false}) [F_Rule___ge__, b_Rule___ge__, isG_ins, m_at_most y x]
theorem m_lt {a b c d : Int} (x : Ok2 a b) (y : Ok2 c d) : F_Rule___lt__ [.im (rul a b), .im (rul c d)] = .ok (.im (.bl (atm a b c d && !atm c d a b))) [.im (rul a b), .im (rul c d)] := by
  cases h : atm a b c d <;> simp (config := {implicitDefEqProofs := false}) [F_Rule___lt__, b_Rule___lt__, isG_ins, m_at_most y x, m_at_most x y, h]
theorem m_gt {a b c d : Int} (x : Ok2 a b) (y : Ok2 c d) : F_Rule___gt__ [.im (rul a b), .im (rul c d)] = .ok (.im (.bl (atm c d a b && !atm a b c d))) [.im (rul a b), .im (rul c d)] := by
  cases h : atm c d a b <;> simp (config := {implicitDefEqProofs := false}) [F_Rule___gt__, b_Rule___gt__, isG_ins, m_at_most y x, m_at_most x y, h]
end PV

set_option Elab.async false
set_option linter.all false
set_option maxRecDepth 100000
set_option maxHeartbeats 8000000
namespace PV
open PySem L2
theorem look_eq : ownEq.lookup 1 = some F_Rule___eq__ := rfl
theorem look_eq0 : ownEq.lookup 0 = some F_Behavior___eq__ := rfl
theorem look_le : ownLe.lookup 1 = some F_Rule___le__ := rfl
theorem look_lt : ownLt.lookup 1 = some F_Rule___lt__ := rfl
theorem look_ge : ownGe.lookup 1 = some F_Rule___ge__ := rfl
theorem look_gt : ownGt.lookup 1 = some F_Rule___gt__ := rfl
theorem okY_rul (a b : Int) : okY [0, 1] (.im (rul a b)) = true := rfl
theorem own_eq2 (a b c d : Int) (rf neg : Bool) (e : Env) : ownG ownEq [0, 1] rf neg (rul a b) (rul c d) e = .ok (.v (.im (.bl ((a == c && b == d) != neg)))) e := by
  rw [ownG_l 1 _ _ _ _ _ _ _ _ look_eq (okY_rul c d), m_eq, ask_ok]
section
variable {a b c d : Int} (x : Ok2 a b) (y : Ok2 c d) (e : Env)
include x y
theorem own_le2 : ownG ownLe [0, 1] false false (rul a b) (rul c d) e = .ok (.v (.im (.bl (atm a b c d)))) e := by
  rw [ownG_l 1 _ _ _ _ _ _ _ _ look_le (okY_rul c d), m_le x y, ask_ok]; simp
theorem own_ge2 : ownG ownGe [0, 1] false false (rul a b) (rul c d) e = .ok (.v (.im (.bl (atm c d a b)))) e := by
  rw [ownG_l 1 _ _ _ _ _ _ _ _ look_ge (okY_rul c d), m_ge x y, ask_ok]; simp
theorem own_lt2 : ownG ownLt [0, 1] false false (rul a b) (rul c d) e = .ok (.v (.im (.bl (atm a b c d && !atm c d a b)))) e := by
  rw [ownG_l 1 _ _ _ _ _ _ _ _ look_lt (okY_rul c d), m_lt x y, ask_ok]; simp
theorem own_gt2 : ownG ownGt [0, 1] false false (rul a b) (rul c d) e = .ok (.v (.im (.bl (atm c d a b && !atm a b c d)))) e := by
  rw [ownG_l 1 _ _ _ _ _ _ _ _ look_gt (okY_rul c d), m_gt x y, ask_ok]; simp
end
@[simp] theorem eq_bl2 (neg : Bool) (i j k l : Bool) : eqO neg [.ls [.im (.bl i), .im (.bl j)], .ls [.im (.bl k), .im (.bl l)]] = some (.im (.bl (((i == k) && (j == l)) != neg))) := by
  rw [eqO_eq (p := .list [.bool i, .bool j]) (q := .list [.bool k, .bool l]) rfl rfl rfl rfl]
  simp [PyData.eqv, PyData.eqvAll]
@[simp] theorem eq_bl6 (neg : Bool) (i1 i2 i3 i4 i5 i6 k1 k2 k3 k4 k5 k6 : Bool) : eqO neg [.ls [.im (.bl i1), .im (.bl i2), .im (.bl i3), .im (.bl i4), .im (.bl i5), .im (.bl i6)], .ls [.im (.bl k1), .im (.bl k2), .im (.bl k3), .im (.bl k4), .im (.bl k5), .im (.bl k6)]] =
    some (.im (.bl (((i1 == k1) && ((i2 == k2) && ((i3 == k3) && ((i4 == k4) && ((i5 == k5) && (i6 == k6)))))) != neg))) := by
  rw [eqO_eq (p := .list [.bool i1, .bool i2, .bool i3, .bool i4, .bool i5, .bool i6]) (q := .list [.bool k1, .bool k2, .bool k3, .bool k4, .bool k5, .bool k6]) rfl rfl rfl rfl]
  simp [PyData.eqv, PyData.eqvAll]
theorem m_right1 {a b c d : Int} (x : Ok2 a b) (y : Ok2 c d) (L G Q : Bool) (hL : atm a b c d = L) (hG : atm c d a b = G) (hQ : (a == c && b == d) = Q) (h1 : (decide (b ≤ d) && decide (a * b ≤ c * d)) = L) (h2 : (decide (d ≤ b) && decide (c * d ≤ a * b)) = G) (h3 : Q = (L && G)) : F_law_right [.im (.tup [.int a, .int b]), .im (.tup [.int c, .int d])] = .ok (.im (.bl true)) [.im (.tup [.int a, .int b]), .im (.tup [.int c, .int d])] := by
  obtain ⟨x1, x2, x3, x4⟩ := id x
  obtain ⟨y1, y2, y3, y4⟩ := id y
  by_cases g1 : b ≤ d <;> by_cases g2 : d ≤ b <;> simp only [g1, g2, decide_true, decide_false, Bool.true_and, Bool.false_and] at h1 h2 <;>
  cases L <;> cases G <;> cases Q <;> first
  | (exfalso; omega)
  | (cases h3; done)
  | (cases h1; done)
  | (cases h2; done)
  | simp (config := {implicitDefEqProofs := false}) (disch := omega) [F_law_right, b_law_right, m_rule x1 x3, m_rule y1 y3, o_Times, rulO_d, own_eq2, own_le2 x y, own_ge2 x y, own_lt2 x y, own_gt2 x y, m_wait, m_turns, k3, k4, o_PlusL, hL, hG, hQ, g1, g2, h1, h2]
theorem m_right {a b c d : Int} (x : Ok2 a b) (y : Ok2 c d) : F_law_right [.im (.tup [.int a, .int b]), .im (.tup [.int c, .int d])] = .ok (.im (.bl true)) [.im (.tup [.int a, .int b]), .im (.tup [.int c, .int d])] := by
  refine m_right1 x y _ _ _ rfl rfl rfl (by unfold atm; rw [Int.mul_comm a b, Int.mul_comm c d]) (by unfold atm; rw [Int.mul_comm a b, Int.mul_comm c d]) ?_
  obtain ⟨x1, x2, x3, x4⟩ := x
  obtain ⟨y1, y2, y3, y4⟩ := y
  rw [Bool.eq_iff_iff]
  simp only [atm, Bool.and_eq_true, beq_iff_eq, decide_eq_true_eq]
  constructor
  · rintro ⟨rfl, rfl⟩
    exact ⟨⟨by omega, by omega⟩, by omega, by omega⟩
  · rintro ⟨⟨p1, p2⟩, p3, p4⟩
    have hb : b = d := by omega
    subst hb
    exact ⟨Int.eq_of_mul_eq_mul_left (by omega : b ≠ 0) (by omega), rfl⟩
end PV

set_option Elab.async false
set_option linter.all false
set_option maxRecDepth 100000
set_option maxHeartbeats 8000000
namespace PV
open PySem L2
/-- what may be compared with a rule: data, or a behavior -/
def Odd (d : D) : Prop := (∃ t, tyD d = some t ∧ t ∈ kinds ∧ excN (.im d) = none ∧ kls (.im d) = none) ∨ ∃ fs, d = .ins 0 fs
theorem own_l {a b : Int} {d : D} (h : Odd d) (rf neg : Bool) (e : Env) : ownG ownEq [0, 1] rf neg (rul a b) d e = .ok (.v (.im (.bl neg))) e := by
  rcases h with ⟨t, h1, h2, h3, h4⟩ | ⟨fs, rfl⟩
  · have hy : okY [0, 1] (.im d) = true := by
      have e1 : tyO (.im d) = some t := h1
      unfold okY
      rw [e1]
      simp [h2]
    rw [ownG_l 1 _ _ _ _ _ _ _ _ look_eq hy, m_eqD a b h1 h2 h3, ask_ok]
    cases neg <;> rfl
  · rw [ownG_l 1 _ _ _ _ _ _ _ _ look_eq rfl, m_eqB, ask_ok]
    cases neg <;> rfl
theorem own_r {a b : Int} {d : D} (h : Odd d) (e : Env) : ownG ownEq [0, 1] true false d (rul a b) e = .ok (.v (.im (.bl false))) e := by
  rcases h with ⟨t, h1, h2, h3, h4⟩ | ⟨fs, rfl⟩
  · rw [ownG_r h4 h1 h2 1 _ _ _ _ _ _ look_eq, m_eqD a b h1 h2 h3, ask_ok]
    rfl
  · rw [ownG_l 0 _ _ _ _ _ _ _ _ look_eq0 rfl, m_Beq, ask_ok]
    rfl
theorem w_alone {a b : Int} {d p : D} {x2 : Option O} (h : Odd d) : w_law_alone_0 [some (.im (rul a b)), some (.im p), x2, some (.im d)] = .nx [some (.im (rul a b)), some (.im p), x2, some (.im d)] := by
  have hr : ∀ (fo : Option O) (rf neg : Bool) (a' b' : AO) (e : Env), cmpG fo ownEq [0, 1] rf neg (.im d) (.im (rul a b)) a' b' e = (Res.opt (pass [.im, .im] [a', b'] e) e).bind fun q _ => match q with
      | ([.im x, .im y], e2, _) => ownG ownEq [0, 1] rf neg x y e2
      | _ => .no := fun fo rf neg a' b' e => by
    rcases h with ⟨t, h1, h2, h3, h4⟩ | ⟨fs, rfl⟩
    · exact cmpG_r h4 _ _ _ _ _ _ _ _ _ _
    · rfl
  simp (config := {implicitDefEqProofs := false}) [w_law_alone_0, own_l h, own_r h, hr]
theorem alone_loop {a b : Int} {p : D} {x2 : Option O} : ∀ (ds : List D) (x3 : Option O), (∀ d ∈ ds, Odd d) → ∃ x3', runFor (sName 3) w_law_alone_0 ds [some (.im (rul a b)), some (.im p), x2, x3] = .nx [some (.im (rul a b)), some (.im p), x2, x3']
  | [], x3, _ => ⟨x3, by rw [loop_nil]⟩
  | d :: ds, x3, h => by
    obtain ⟨x3', e⟩ := alone_loop (a := a) (b := b) (p := p) (x2 := x2) ds (some (.im d)) fun y hy => h y (List.mem_cons_of_mem _ hy)
    refine ⟨x3', ?_⟩
    rw [loop_cons]
    simp only [e_Name, List.length_cons, List.length_nil, List.set_cons_succ, List.set_cons_zero]
    rw [if_pos (by decide), sopt_some, sq_nx, w_alone (h d List.mem_cons_self), lp_nx, e]
theorem SS_nil : oSS [.im (.lst [])] = some (.ls []) := by
  have e : sortT [] = [] := by simp [sortT, dd]
  show (if okT [] = true then some (O.ls ((sortT []).map fun k => .im (tD k))) else none) = _
  rw [e]
  rfl
theorem LS_nil : oLS [.im (.lst [])] = some (I 0) := rfl
def behF : List (Str × D) := [("_events", D.int 2), ("_links", D.lst []), ("_heard", D.lst []), ("_opens", D.lst [])]
abbrev behO : O := .ob 0 ["_events", "_links", "_heard", "_opens"] [I 2, .ls [], .ls [], .ls []]
theorem beh_d : behO.d = .ins 0 behF := rfl
theorem m_index (v n : Int) : Fis_index [I v, I n] = .ok (.im (.bl (decide (0 ≤ v) && decide (v < n)))) [I v, I n] := by
  by_cases h : 0 ≤ v <;> simp (config := {implicitDefEqProofs := false}) [Fis_index, bis_index, m_at_least, h]
theorem kb1 : (Str.ofString "_events" = Str.ofString "_links") = False := eq_false (by decide +kernel)
theorem kb2 : (Str.ofString "_events" = Str.ofString "_heard") = False := eq_false (by decide +kernel)
theorem kb3 : (Str.ofString "_events" = Str.ofString "_opens") = False := eq_false (by decide +kernel)
theorem kb4 : (Str.ofString "_links" = Str.ofString "_events") = False := eq_false (by decide +kernel)
theorem kb5 : (Str.ofString "_links" = Str.ofString "_heard") = False := eq_false (by decide +kernel)
theorem kb6 : (Str.ofString "_links" = Str.ofString "_opens") = False := eq_false (by decide +kernel)
theorem kb7 : (Str.ofString "_heard" = Str.ofString "_events") = False := eq_false (by decide +kernel)
theorem kb8 : (Str.ofString "_heard" = Str.ofString "_links") = False := eq_false (by decide +kernel)
theorem kb9 : (Str.ofString "_heard" = Str.ofString "_opens") = False := eq_false (by decide +kernel)
theorem kb10 : (Str.ofString "_opens" = Str.ofString "_events") = False := eq_false (by decide +kernel)
theorem kb11 : (Str.ofString "_opens" = Str.ofString "_links") = False := eq_false (by decide +kernel)
theorem kb12 : (Str.ofString "_opens" = Str.ofString "_heard") = False := eq_false (by decide +kernel)
theorem m_beh : F_Behavior___init__ [.ob 0 [] [], I 2, .im (.lst []), .im (.lst []), .im (.lst [])] = .ok (.im .non) [behO, I 2, .im (.lst []), .im (.lst []), .im (.lst [])] := by
  have a1 : F_are_ports [.im (.lst []), I 2] = .ok (.im (.bl true)) [.im (.lst []), I 2] := by
    simp (config := {implicitDefEqProofs := false}) [F_are_ports, b_are_ports, isTy, lc_nil, wipeE, oAll, boolsO, lstD, allIm, boolsD, LS_nil]
  simp (config := {implicitDefEqProofs := false}) [F_Behavior___init__, b_Behavior___init__, F_fit, b_fit, m_at_least, isTy, lc_nil, wipeE, oAll, boolsO, lstD, allIm, boolsD, a1, putO, SS_nil, kb1, kb2, kb3, kb4, kb5, kb6, kb7, kb8, kb9, kb10, kb11, kb12]
end PV

set_option Elab.async false
set_option linter.all false
set_option maxRecDepth 100000
set_option maxHeartbeats 8000000
namespace PV
open PySem L2
def al1 (a b : Int) : List D := [.tup [.int a, .int b], .int a, .non, .lst [.int a, .int b], .str (Str.ofString a.repr), .str "endless", .str "", .dct [], .lst [], .bl true, .ins 0 behF]
def al2 (a b : Int) : List D := [.lst [rul a b], .tup [rul a b]]
abbrev alones (a b : Int) : List D := al1 a b ++ al2 a b
theorem alones_odd (a b : Int) : ∀ d ∈ alones a b, Odd d := by
  intro d h
  simp only [alones, al1, al2, List.mem_append, List.mem_cons, List.not_mem_nil, or_false, or_assoc] at h
  rcases h with rfl | rfl | rfl | rfl | rfl | rfl | rfl | rfl | rfl | rfl | rfl | rfl | rfl
  · exact .inl ⟨_, rfl, by decide, rfl, rfl⟩
  · exact .inl ⟨_, rfl, by decide, rfl, rfl⟩
  · exact .inl ⟨_, rfl, by decide, rfl, rfl⟩
  · exact .inl ⟨_, rfl, by decide, rfl, rfl⟩
  · exact .inl ⟨_, rfl, by decide, rfl, rfl⟩
  · exact .inl ⟨_, rfl, by decide, rfl, rfl⟩
  · exact .inl ⟨_, rfl, by decide, rfl, rfl⟩
  · exact .inl ⟨_, rfl, by decide, rfl, rfl⟩
  · exact .inl ⟨_, rfl, by decide, rfl, rfl⟩
  · exact .inl ⟨_, rfl, by decide, rfl, rfl⟩
  · exact .inr ⟨_, rfl⟩
  · exact .inl ⟨_, rfl, by decide, rfl, rfl⟩
  · exact .inl ⟨_, rfl, by decide, rfl, rfl⟩
theorem log_lt {a : Int} (h1 : 0 ≤ a) (h2 : a < 2 ^ 199) : a.natAbs.log2 < 1920 := by
  rcases Nat.eq_zero_or_pos a.natAbs with h | h
  · rw [h]; decide
  · have h3 : a.natAbs < 2 ^ 199 := by omega
    have : a.natAbs.log2 < 199 := (Nat.log2_lt (by omega)).2 h3
    omega
@[simp] theorem d_nil : (O.ls []).d = .lst [] := rfl
theorem m_alone {a b : Int} (h1 : 0 ≤ a) (h2 : a < 2 ^ 199) : F_law_alone [.im (rul a b), .im (.tup [.int a, .int b])] = .ok (.im (.bl true)) [.im (rul a b), .im (.tup [.int a, .int b])] := by
  obtain ⟨x3, hx⟩ := alone_loop (a := a) (b := b) (p := .tup [.int a, .int b]) (x2 := some (.im (.lst (al1 a b)))) (alones a b) none (alones_odd a b)
  have d1 : (O.ls [O.im (D.tup [D.int a, D.int b]), O.im (D.int a), O.im D.non, O.ls [O.im (D.int a), O.im (D.int b)], O.im (D.str (Str.ofString a.repr)), O.im (D.str (Str.ofString "endless")), O.im (D.str (Str.ofString "")), O.im (D.dct []), O.ls [], O.im (D.bl true), behO]).d = .lst (al1 a b) := rfl
  have d2 : (O.ls [O.ls [O.im (rul a b)], O.im (D.tup [rul a b])]).d = .lst (al2 a b) := rfl
  have n1 : (al1 a b).length = 11 := rfl
  have n2 : (al2 a b).length = 2 := rfl
  have d3 : (List.map O.im (al1 a b) ++ List.map O.im (al2 a b)) = (alones a b).map O.im := by rw [List.map_append]
  have d4 : ((O.ls ((alones a b).map O.im)).d) = .lst (alones a b) := rfl
  simp (config := {implicitDefEqProofs := false}) [F_law_alone, b_law_alone, m_beh, o_str (log_lt h1 h2), o_PlusL, o_PlusD, d1, d2, d3, d4, n1, n2, hx, m_wait, m_turns, k3, k4, -List.map_append]
end PV

set_option Elab.async false
set_option linter.all false
set_option maxRecDepth 100000
set_option maxHeartbeats 8000000
namespace PV
open PySem L2
def isT : FRes → Bool
  | .ok (.im (.bl true)) [] => true
  | _ => false
theorem m_refused : F_law_refused [] = .ok (.im (.bl true)) [] := by
  have h : isT (F_law_refused []) = true := by decide +kernel
  generalize F_law_refused [] = r at h
  unfold isT at h
  split at h
  · rfl
  · cases h
abbrev tp (x y : Int) : D := .tup [.int x, .int y]
/-- a pair of a wait and turns, that fit -/
def Prt (d : D) : Prop := ∃ x y, d = tp x y ∧ Ok2 x y
theorem Ok2.of {x y : Int} (h1 : 0 ≤ x) (h2 : x < 10 ^ 40) (h3 : 1 ≤ y) (h4 : y < 10 ^ 40) : Ok2 x y := ⟨h1, by omega, h3, by omega⟩
theorem m_some {a b c : Int} (ha : 0 ≤ a) (hb : 0 ≤ b) (hb2 : b < 2 ^ 100) (hc : 0 ≤ c) (hc2 : c < 2 ^ 60) (s k z3 z4 z5 z6 z8 z9 : Option O) :
    ∃ x0 y0 x1 y1 x2 y2 x3 y3 a' c', runLc [7] (sName 7) fYes wlaw_5 (rngD 0 4) [] [s, k, some (pur a b c), z3, z4, z5, z6, none, z8, z9] = some ([.im (tp x0 y0), .im (tp x1 y1), .im (tp x2 y2), .im (tp x3 y3)], [s, k, some (pur a' b c'), z3, z4, z5, z6, none, z8, z9]) ∧
      (0 ≤ x0 ∧ x0 < 10 ^ 29 ∧ 1 ≤ y0 ∧ y0 ≤ 10 ^ 20) ∧ (0 ≤ x1 ∧ x1 < 10 ^ 29 ∧ 1 ≤ y1 ∧ y1 ≤ 10 ^ 20) ∧ (0 ≤ x2 ∧ x2 < 10 ^ 29 ∧ 1 ≤ y2 ∧ y2 ≤ 10 ^ 20) ∧ (0 ≤ x3 ∧ x3 < 10 ^ 29 ∧ 1 ≤ y3 ∧ y3 ≤ 10 ^ 20) := by
  obtain ⟨x0, y0, a0, c0, e0, p0, q0, r0, s0, t0, u0, v0⟩ := m_numbers ha hb hb2 hc (by omega)
  obtain ⟨x1, y1, a1, c1, e1, p1, q1, r1, s1, t1, u1, v1⟩ := m_numbers t0 hb hb2 (c := c0) (by omega) (by omega)
  obtain ⟨x2, y2, a2, c2, e2, p2, q2, r2, s2, t2, u2, v2⟩ := m_numbers t1 hb hb2 (c := c1) (by omega) (by omega)
  obtain ⟨x3, y3, a3, c3, e3, p3, q3, r3, s3, t3, u3, v3⟩ := m_numbers t2 hb hb2 (c := c2) (by omega) (by omega)
  refine ⟨x0, y0, x1, y1, x2, y2, x3, y3, a3, c3, ?_, ⟨p0, q0, r0, s0⟩, ⟨p1, q1, r1, s1⟩, ⟨p2, q2, r2, s2⟩, ⟨p3, q3, r3, s3⟩⟩
  rw [show rngD 0 4 = [.int 0, .int 1, .int 2, .int 3] from rfl]
  simp (config := {implicitDefEqProofs := false}) [lc_cons, lc_nil, wlaw_5, wipeE, e0, e1, e2, e3]
theorem kw5 : (Str.ofString "wait" = Str.ofString "_wait") = False := eq_false (by decide +kernel)
theorem kw6 : (Str.ofString "wait" = Str.ofString "_turns") = False := eq_false (by decide +kernel)
theorem kw7 : (Str.ofString "turns" = Str.ofString "_wait") = False := eq_false (by decide +kernel)
theorem kw8 : (Str.ofString "turns" = Str.ofString "_turns") = False := eq_false (by decide +kernel)
theorem m_part {x y : Int} (h : Ok2 x y) (s k z2 z3 z5 z6 z7 z8 z9 : Option O) : wlaw_4 [s, k, z2, z3, some (.im (tp x y)), z5, z6, z7, z8, z9] = .nx [s, k, z2, z3, some (.im (tp x y)), some (.im (rul x y)), some (.im (rul x 1)), z7, z8, z9] := by
  simp (config := {implicitDefEqProofs := false}) [wlaw_4, m_rule h.h1 h.h3, m_wait, m_turns, k3, k4, kw5, kw6, kw7, kw8, rulO_d, m_alone h.h1 h.h2, m_init h.h1 (show (1 : Int) ≤ 1 by decide)]
theorem m_parts {s k z2 z3 z7 z8 z9 : Option O} : ∀ (ds : List D) (z4 z5 z6 : Option O), (∀ d ∈ ds, Prt d) → ∃ z4' z5' z6', runFor (sName 4) wlaw_4 ds [s, k, z2, z3, z4, z5, z6, z7, z8, z9] = .nx [s, k, z2, z3, z4', z5', z6', z7, z8, z9]
  | [], z4, z5, z6, _ => ⟨z4, z5, z6, by rw [loop_nil]⟩
  | d :: ds, z4, z5, z6, h => by
    obtain ⟨x, y, rfl, hx⟩ := h d List.mem_cons_self
    obtain ⟨z4', z5', z6', e⟩ := m_parts (s := s) (k := k) (z2 := z2) (z3 := z3) (z7 := z7) (z8 := z8) (z9 := z9) ds (some (.im (tp x y))) (some (.im (rul x y))) (some (.im (rul x 1))) fun d hd => h d (List.mem_cons_of_mem _ hd)
    refine ⟨z4', z5', z6', ?_⟩
    rw [loop_cons]
    simp only [e_Name, List.length_cons, List.length_nil, List.set_cons_succ, List.set_cons_zero]
    rw [if_pos (by decide), sopt_some, sq_nx, m_part hx, lp_nx, e]
theorem eq_nils : eqO true [.ls [], .ls []] = some (.im (.bl false)) := by
  rw [eqO_eq (p := .list []) (q := .list []) rfl rfl rfl rfl]
  simp [PyData.eqv, PyData.eqvAll]
theorem m_inner {x y : Int} (h : Ok2 x y) {s k z2 z3 z4 z5 z6 z7 : Option O} : ∀ ds : List D, (∀ d ∈ ds, Prt d) → runLc [9] (sName 9) wlaw_0 wlaw_1 ds [] [s, k, z2, z3, z4, z5, z6, z7, some (.im (tp x y)), none] = some ([], [s, k, z2, z3, z4, z5, z6, z7, some (.im (tp x y)), none])
  | [], _ => lc_nil ..
  | d :: ds, g => by
    obtain ⟨u, v, rfl, hu⟩ := g d List.mem_cons_self
    have e := m_inner (s := s) (k := k) (z2 := z2) (z3 := z3) (z4 := z4) (z5 := z5) (z6 := z6) (z7 := z7) h ds fun d hd => g d (List.mem_cons_of_mem _ hd)
    have w : wlaw_0 [s, k, z2, z3, z4, z5, z6, z7, some (.im (tp x y)), some (.im (tp u v))] = .ok false [s, k, z2, z3, z4, z5, z6, z7, some (.im (tp x y)), some (.im (tp u v))] := by
      simp (config := {implicitDefEqProofs := false}) [wlaw_0, m_right h hu]
    rw [lc_cons]
    simp (config := {implicitDefEqProofs := false}) [w, wipeE, e]
theorem m_outer {all : List D} (ha : ∀ d ∈ all, Prt d) {s k z2 z4 z5 z6 z7 : Option O} : ∀ ds : List D, (∀ d ∈ ds, Prt d) → runLc [8] (sName 8) wlaw_2 wlaw_3 ds [] [s, k, z2, some (.im (.lst all)), z4, z5, z6, z7, none, none] = some ([], [s, k, z2, some (.im (.lst all)), z4, z5, z6, z7, none, none])
  | [], _ => lc_nil ..
  | d :: ds, g => by
    obtain ⟨u, v, rfl, hu⟩ := g d List.mem_cons_self
    have e := m_outer ha (s := s) (k := k) (z2 := z2) (z4 := z4) (z5 := z5) (z6 := z6) (z7 := z7) ds fun d hd => g d (List.mem_cons_of_mem _ hd)
    have e1 := m_inner (s := s) (k := k) (z2 := z2) (z3 := some (.im (.lst all))) (z4 := z4) (z5 := z5) (z6 := z6) (z7 := z7) hu all ha
    have w : wlaw_2 [s, k, z2, some (.im (.lst all)), z4, z5, z6, z7, some (.im (tp u v)), none] = .ok false [s, k, z2, some (.im (.lst all)), z4, z5, z6, z7, some (.im (tp u v)), none] := by
      simp (config := {implicitDefEqProofs := false}) [wlaw_2, wipeE, e1, eq_nils]
    rw [lc_cons]
    simp (config := {implicitDefEqProofs := false}) [w, wipeE, e]
theorem i3 : in62 3 = true := by decide
theorem i4 : in62 4 = true := by decide
theorem m_cell (ns : List Int) {k : Int} (h0 : 0 ≤ k) (h1 : k ≤ 63) (z2 z3 z4 z5 z6 : Option O) : ∃ z2' z3' z4' z5' z6', wlaw_6 [some (.im (.scr ns)), some (I k), z2, z3, z4, z5, z6, none, none, none] = .nx [some (.im (.scr ns)), some (I k), z2', z3', z4', z5', z6', none, none, none] := by
  obtain ⟨a, b, e, ha, hb, hb2⟩ := m_purse ns k h0 h1
  obtain ⟨x0, y0, x1, y1, x2, y2, x3, y3, a', c', e2, b0, b1, b2, b3⟩ := m_some ha hb hb2 (c := 1000 * k) (by omega) (by omega) (some (.im (.scr ns))) (some (I k)) z3 z4 z5 z6 none none
  have w1 : cPow 10 40 = true := by decide +kernel
  have p1 := Int.emod_nonneg (x0 * y0) (show (10000000000000000000000000000000000000000 : Int) ≠ 0 by decide)
  have p2 := Int.emod_lt_of_pos (x0 * y0) (show (0 : Int) < 10000000000000000000000000000000000000000 by decide)
  have hp : ∀ d ∈ [tp x0 y0, tp x1 y1, tp x2 y2, tp x3 y3, tp x0 y1, tp (x0 * y0 % 10000000000000000000000000000000000000000) 1], Prt d := by
    intro d hd
    simp only [List.mem_cons, List.not_mem_nil, or_false] at hd
    rcases hd with rfl | rfl | rfl | rfl | rfl | rfl
    · exact ⟨_, _, rfl, .of (by omega) (by omega) (by omega) (by omega)⟩
    · exact ⟨_, _, rfl, .of (by omega) (by omega) (by omega) (by omega)⟩
    · exact ⟨_, _, rfl, .of (by omega) (by omega) (by omega) (by omega)⟩
    · exact ⟨_, _, rfl, .of (by omega) (by omega) (by omega) (by omega)⟩
    · exact ⟨_, _, rfl, .of (by omega) (by omega) (by omega) (by omega)⟩
    · exact ⟨_, _, rfl, .of (by omega) (by omega) (by omega) (by omega)⟩
  obtain ⟨z4', z5', z6', e3⟩ := m_parts (s := some (.im (.scr ns))) (k := some (I k)) (z2 := some (pur a' b c')) (z3 := some (.im (.lst [tp x0 y0, tp x1 y1, tp x2 y2, tp x3 y3, tp x0 y1, tp (x0 * y0 % 10000000000000000000000000000000000000000) 1]))) (z7 := none) (z8 := none) (z9 := none) _ z4 z5 z6 hp
  have e4 := m_outer hp (s := some (.im (.scr ns))) (k := some (I k)) (z2 := some (pur a' b c')) (z4 := z4') (z5 := z5') (z6 := z6') (z7 := none) _ hp
  have d1 : (O.ls [O.im (tp x0 y0), O.im (tp x1 y1), O.im (tp x2 y2), O.im (tp x3 y3), O.im (tp x0 y1), O.im (tp (x0 * y0 % 10000000000000000000000000000000000000000) 1)]).d = .lst [tp x0 y0, tp x1 y1, tp x2 y2, tp x3 y3, tp x0 y1, tp (x0 * y0 % 10000000000000000000000000000000000000000) 1] := rfl
  refine ⟨some (pur a' b c'), some (.im (.lst [tp x0 y0, tp x1 y1, tp x2 y2, tp x3 y3, tp x0 y1, tp (x0 * y0 % 10000000000000000000000000000000000000000) 1])), z4', z5', z6', ?_⟩
  simp (config := {implicitDefEqProofs := false}) (disch := omega) [wlaw_6, i4, e, wipeE, e2, w1, cMod_s, o_Times, d1, e3, e4, eq_nils]
theorem m_cells (ns : List Int) : ∀ (ds : List D) (z1 z2 z3 z4 z5 z6 : Option O), (∀ d ∈ ds, ∃ k : Int, d = .int k ∧ 0 ≤ k ∧ k ≤ 63) → ∃ z1' z2' z3' z4' z5' z6', runFor (sName 1) wlaw_6 ds [some (.im (.scr ns)), z1, z2, z3, z4, z5, z6, none, none, none] = .nx [some (.im (.scr ns)), z1', z2', z3', z4', z5', z6', none, none, none]
  | [], z1, z2, z3, z4, z5, z6, _ => ⟨z1, z2, z3, z4, z5, z6, by rw [loop_nil]⟩
  | d :: ds, z1, z2, z3, z4, z5, z6, h => by
    obtain ⟨k, rfl, h0, h1⟩ := h d List.mem_cons_self
    obtain ⟨z2', z3', z4', z5', z6', e1⟩ := m_cell ns h0 h1 z2 z3 z4 z5 z6
    obtain ⟨w1, w2, w3, w4, w5, w6, e⟩ := m_cells ns ds (some (I k)) z2' z3' z4' z5' z6' fun d hd => h d (List.mem_cons_of_mem _ hd)
    refine ⟨w1, w2, w3, w4, w5, w6, ?_⟩
    rw [loop_cons]
    simp only [e_Name, List.length_cons, List.length_nil, List.set_cons_succ, List.set_cons_zero]
    rw [if_pos (by decide), sopt_some, sq_nx, e1, lp_nx, e]
/-- the law is true of every script -/
theorem hlaw (ns : List Int) (h : ns.length ≤ 63) : ∃ os, Flaw [.im (.scr ns)] = .ok (.im (.bl true)) os := by
  obtain ⟨z1, z2, z3, z4, z5, z6, e⟩ := m_cells ns (rngD 0 3) none none none none none none fun d hd => by
    rw [show rngD 0 3 = [.int 0, .int 1, .int 2] from rfl] at hd
    simp only [List.mem_cons, List.not_mem_nil, or_false] at hd
    rcases hd with rfl | rfl | rfl
    · exact ⟨_, rfl, by decide, by decide⟩
    · exact ⟨_, rfl, by decide, by decide⟩
    · exact ⟨_, rfl, by decide, by decide⟩
  refine ⟨[.im (.scr ns)], ?_⟩
  simp (config := {implicitDefEqProofs := false}) [Flaw, blaw, i3, e, m_refused]
end PV

set_option Elab.async false
set_option linter.all false
set_option maxRecDepth 100000
set_option maxHeartbeats 4000000
/-! PWi: the end of a law for defs that hold where no guard stands around, and helpers for its facts -/
namespace PV
open PySem PySem.Spec PyProof.Rows L2
section
variable {P : Program} {w : World} {K : PySem.W.Frag} {mg mb : Str → Option Value} {k : Nat} {fa a : Addr} {fd : FuncData} {x : Str} {sp : Sp} {t : Shared} {vs : List Value} {ns : List Int}
/-- the law's call, the script being the one thing that may be tracked -/
theorem lawH (kin : K.In t.heap) (mgn : t.heap.Ns mainGlobals mg) (mbn : t.heap.Ns builtinsNs mb) (mbb : ∀ y : Str, y ≠ "__name__" → mb y = bootBuiltins y) (nolim : t.heap.NoLimit) (nog : t.gens = #[])
    (oa : t.heap.get? a = some { cls := .type "list", data := .seq vs.toArray }) (room : Room k callerA) (F : ∀ b : Heap, K.In b → b.Ns mainGlobals mg → FnG P w K mg b k fa fd [x] sp) (bind : ∀ (s : Shared) (u : Value), BindsTo s fd ⟨[u], []⟩ [(x, u)])
    {H : Hp} (only : Only H) (spec : sp [.ref a] H (fun v _ => v = .bl true) fun _ _ _ => False) (good : HOk P w H t.heap) (one : ∀ b, H b ≠ none → b = a) (free : H a ≠ none → K.lookup a = none) :
    codeAny (model P w) callerA (.call (.ref fa) ⟨[.ref a], []⟩) (fun r t' => r = .ok (.ret (.bool true)) ∧ OldK t.heap t'.heap ∧ t'.os = t.os ∧ AllBare t'.gens) t := by
  have far : ∀ {b : Addr}, (b = a → False) → H b = none := fun {b} ne => by
    cases z : H b with
    | none => rfl
    | some _ => exact (ne (one b (by rw [z]; exact Option.some_ne_none _))).elim
  have names : ∀ {b : Addr} {m : Str → Option Value}, t.heap.Ns b m → (hidT t.heap H).Ns b m := by
    rintro b m ⟨o, es, ep, p, d, r⟩
    refine ⟨o, es, ep, hidT_get p (far fun z => ?_), d, r⟩
    subst z
    rw [oa] at p
    cases p
    have z : Data.seq vs.toArray _ = Data.dict es ep := d
    cases z
  have kin' : K.In (hidT t.heap H) := fun b o p => hidT_get (kin b o p) (by
    cases z : H b with
    | none => rfl
    | some _ =>
      have n : H b ≠ none := by rw [z]; exact Option.some_ne_none _
      have e := one b n
      subst e
      rw [free n] at p
      cases p)
  have md : Mod K mg (hidT t.heap H) := ⟨kin', names mgn, ⟨mb, names mbn, mbb⟩, by
    obtain ⟨m, z1, z2⟩ := nolim
    exact ⟨m, names z1, z2⟩⟩
  have env : Env0 P w K mg (hidT t.heap H) callerA [] t H := ⟨rfl, md, fun _ _ p => of_hidT p, Nat.le_of_eq (hidT_size _ _), trivial, fun b z => (List.not_mem_nil (a := b) z).elim, good, .of_eq nog⟩
  have run := (F _ kin' (names mgn)).run callerA [] t H ⟨[.ref a], []⟩ [.ref a] [.ref a] _ _ ⟨room, rfl⟩ env (bind t (.ref a)) (.cons rfl .nil) spec
  refine codeAny_mono run ?_
  rintro (y | fl) t' z
  · obtain ⟨_, _, _, _, _, _, _, _, _, _, _, _, no⟩ := z
    exact no.elim
  · cases fl with
    | ret u =>
      obtain ⟨v, H', os, bare, un, good', rv, e⟩ := z
      have e' : v = V.bl true := e
      subst e'
      have eu : u = Value.bool true := rv
      subst eu
      refine ⟨rfl, OldK.of_keep fun b o p => ?_, os, bare⟩
      cases z : H b with
      | none => exact un.keep b o p z (fun m => (List.not_mem_nil (a := b) m).elim) (fun m => (List.not_mem_nil m).elim)
      | some u =>
        rcases only b with n | ⟨ob, xs, n⟩
        · exact absurd (z.symm.trans n) (by simp)
        · obtain ⟨p1, _⟩ := good b _ n
          obtain ⟨p2, _⟩ := good' b _ (un.frzs b ob _ n)
          have q : o = ob := by
            rw [p] at p1
            cases p1
            rfl
          rw [q]
          exact p2
    | next => exact False.elim z
    | brk => exact False.elim z
    | cont => exact False.elim z
theorem lawG (kin : K.In t.heap) (mgn : t.heap.Ns mainGlobals mg) (mbn : t.heap.Ns builtinsNs mb) (mbb : ∀ y : Str, y ≠ "__name__" → mb y = bootBuiltins y) (nolim : t.heap.NoLimit) (nog : t.gens = #[])
    (oa : t.heap.get? a = some { cls := .type "list", data := .seq vs.toArray }) (itg : IntsAre vs ns) (small : ns.length ≤ sizeLine) (room : Room k callerA) (F : ∀ b : Heap, K.In b → b.Ns mainGlobals mg → FnG P w K mg b k fa fd [x] sp)
    (bind : ∀ (s : Shared) (u : Value), BindsTo s fd ⟨[u], []⟩ [(x, u)]) (spec : ∀ H : Hp, Only H → SqL K H a (ns.map V.int) → sp [.ref a] H (fun v _ => v = .bl true) fun _ _ _ => False) :
    codeAny (model P w) callerA (.call (.ref fa) ⟨[.ref a], []⟩) (fun r t' => r = .ok (.ret (.bool true)) ∧ OldK t.heap t'.heap ∧ t'.os = t.os ∧ AllBare t'.gens) t := by
  have rel := vals_ints itg
  have len := itg.length
  cases q : K.lookup a with
  | some o =>
    have p := kin a o q
    rw [oa] at p
    cases p
    have only : Only (fun _ => none : Hp) := fun _ => .inl rfl
    have there : SqL K (fun _ => none) a (ns.map V.int) := .inr ⟨_, vs.toArray, _, q, rfl, rfl, rfl, by simpa [len] using small, by simpa using rel⟩
    refine lawH kin mgn mbn mbb nolim nog oa room F bind only (spec _ only there) (fun b u z => ?_) (fun b z => (z rfl).elim) fun z => (z rfl).elim
    have z' : (none : Option HO) = some u := z
    cases z'
  | none =>
    let fz : HO := .frz { cls := .type "list", data := .seq vs.toArray } (.lst (ns.map V.int))
    let H : Hp := fun b => if b = a then some fz else none
    have at_a : H a = some fz := if_pos rfl
    have off : ∀ {b}, b ≠ a → H b = none := fun ne => if_neg ne
    have only : Only H := fun b => by
      by_cases e : b = a
      · exact .inr ⟨_, _, e ▸ at_a⟩
      · exact .inl (off e)
    have there : SqL K H a (ns.map V.int) := .inl (.inr ⟨_, at_a⟩)
    refine lawH kin mgn mbn mbb nolim nog oa room F bind only (spec _ only there) (fun b u z => ?_) (fun b z => ?_) fun _ => q
    · by_cases e : b = a
      · subst e
        have z' : u = fz := Option.some.inj (z.symm.trans at_a)
        subst z'
        exact ⟨oa, by simpa using small, vs, _, rel, oa⟩
      · exact absurd (z.symm.trans (off e)) (by simp)
    · by_cases e : b = a
      · exact e
      · exact (z (off e)).elim
end
theorem walkG {l : PySem.W.OpenLaw} {n k : Nat} {q : Program} {loose : List Str} {XP : (Str → Option Value) → Heap → Prop} {YP : World → Heap → Prop} {d : DefRec} {K : Params → PySem.W.Frag} {sp : World → Sp} {x : Str} (hn : l.most = some n) (le : n ≤ sizeLine) (nod : d.params.defaults = []) (room : Room k callerA)
    (kin : ∀ (w : World) (h : Heap), YP w h → (K w.params).In h)
    (F : ∀ (w : World) (mg : Str → Option Value) (f : Addr) (h : Heap), (K w.params).In h → h.Ns mainGlobals mg → mg d.name = some (.ref f) → ∃ fd : FuncData, (∀ (s : Shared) (u : Value), BindsTo s fd ⟨[u], []⟩ [(x, u)]) ∧ ∀ b : Heap, (K w.params).In b → b.Ns mainGlobals mg → FnG l.prog w (K w.params) mg b k f fd [x] (sp w))
    (spec : ∀ (w : World) (H : Hp) (a : Addr) (ns : List Int), ns.length ≤ n → Only H → SqL (K w.params) H a (ns.map V.int) → sp w [.ref a] H (fun v _ => v = .bl true) fun _ _ _ => False) :
    PySem.W.WalkO q loose XP YP l.row.toRowW d [] (fun f vs => PySem.call f vs) := by
  apply Att.attach_call hn nod
  intro w t0 t mg mb f o pm cd doc a vs ns G Y _ _ _ named oa itg len nog
  obtain ⟨fd, b, hF⟩ := F w mg f _ (kin w _ Y) G.T.g named
  exact lawG (kin w _ Y) G.T.g G.T.b G.T.builtins G.T.nolimit nog oa itg (Nat.le_trans len le) room hF b fun H o s => spec w H a ns len o s
def spLaw (K : PySem.W.Frag) : Sp := fun vs H Q _ => ∃ (a : Addr) (ns : List Int), vs = [.ref a] ∧ SqL K H a (ns.map V.int) ∧ ns.length ≤ 63 ∧ ∀ H', Q (.bl true) H'
theorem spf_law {G : Cl} {F : List O → FRes} (hl : ∀ ns : List Int, ns.length ≤ 63 → ∃ os, F [.im (.scr ns)] = .ok (.im (.bl true)) os) {vs : List V} {H : Hp} {Q : VK} {E : XK} (q : spLaw G.K vs H Q E) : SpF G 1 F vs H Q E := by
  obtain ⟨a, ns, rfl, hS, hn, k⟩ := q
  obtain ⟨os, e⟩ := hl ns hn
  have lk : LsK G H (fun a => a ∈ ([] : List Addr) ∨ False) a (ns.map V.int) := by
    rcases hS with r | r
    · exact .inl ⟨r, by simp⟩
    · exact .inr (.inr r)
  refine ⟨rfl, fun _ => False, [.im (.scr ns)], [], ⟨.so (A := []) (.im (.scr lk)) .nil, List.nodup_nil, fun _ m => (by cases m), fun _ z => z.elim⟩, ?_⟩
  rw [e]
  intro v H' A' S _
  obtain ⟨v', _, _, _, h1, _, h2, _⟩ := SlA.at (i := 0) S.sl rfl
  cases h1
  cases h2 with
  | im q => cases q; exact k H'
/-! facts -/
theorem k7 {p : String → Prop} (h1 : p "NoneType") (h2 : p "bool") (h3 : p "int") (h4 : p "str") (h5 : p "list") (h6 : p "tuple") (h7 : p "dict") : ∀ t ∈ kinds, p t := by
  intro t ht
  simp only [kinds, List.mem_cons, List.not_mem_nil, or_false] at ht
  rcases ht with rfl | rfl | rfl | rfl | rfl | rfl | rfl <;> assumption
theorem in1 {a : Nat} {p : Nat → Prop} (h1 : p a) : ∀ c ∈ ([a] : List Nat), p c := by
  intro c hc
  simp only [List.mem_cons, List.not_mem_nil, or_false] at hc
  subst hc; exact h1
theorem in2 {a b : Nat} {p : Nat → Prop} (h1 : p a) (h2 : p b) : ∀ c ∈ ([a, b] : List Nat), p c := by
  intro c hc
  simp only [List.mem_cons, List.not_mem_nil, or_false] at hc
  rcases hc with rfl | rfl <;> assumption
theorem rfs {c : Addr} : PySem.HandSPX.refsVE [.ref c, .type "ValueError", .type "Exception", .type "BaseException", .type "object"] = true :=
  (by decide +kernel : PySem.HandSPX.refsVE [.type "ValueError", .type "Exception", .type "BaseException", .type "object"] = true)
theorem funD_mk {K : PySem.W.Frag} {x qual : Str} {st : Stmt} {f T : Addr} {oc tc : Value} {od an td : Option Addr} {osl tsl : Array (Option Value)} {kV doc pm cdv ct v : Value} {d : V} {n : Nat} (l : K.lookup f = some ⟨oc, od, .func (PySem.W.fnOf x qual (defArgs st) (defBody st) (defScope st) (.ref T) kV doc pm an cdv ct), osl⟩)
    (c : PySem.W.codeIn K cdv qual = true) (k : PySem.W.keepIn K (.ref f) = true) (lt : K.lookup T = some ⟨tc, td, .seq [v].toArray n, tsl⟩) (r : RelV d v) : FunD K x qual (defArgs st) (defBody st) (defScope st) [d] [] f (PySem.W.fnOf x qual (defArgs st) (defBody st) (defScope st) (.ref T) kV doc pm an cdv ct) :=
  ⟨⟨oc, od, _, kV, doc, pm, an, cdv, ct, osl, rfl, l, c, .inr ⟨List.cons_ne_nil _ _, T, _, [v], n, rfl, lt, rfl, .cons r .nil⟩, .inl rfl⟩, k⟩
theorem vals_nil {ds : List Value} (h : Vals [] ds) : ds = [] := by cases h; rfl
end PV

set_option Elab.async false
set_option linter.all false
set_option maxRecDepth 100000
set_option maxHeartbeats 4000000
namespace PV
open PySem L2
theorem all_mk (hl : ∀ ns : List Int, ns.length ≤ 63 → ∃ os, Flaw [.im (.scr ns)] = .ok (.im (.bl true)) os) {l : PySem.W.OpenLaw} {w : World} {K : PySem.W.Frag} {h : Heap} {mg : Str → Option Value} {fa : Addr} (X : K.In h) (G : h.Ns mainGlobals mg) (hfa : mg "law" = some (.ref fa))
    {C_0 : Addr}
    {C_1 : Addr}
    {C_2 : Addr}
    {C_3 : Addr}
    {C_4 : Addr}
    {f_0 : Addr} {od_0 an_0 : Option Addr} {oc_0 kV_0 dc_0 pm_0 cd_0 ct_0 : Value} {sl_0 : Array (Option Value)}
    {f_1 : Addr} {od_1 an_1 : Option Addr} {oc_1 kV_1 dc_1 pm_1 cd_1 ct_1 : Value} {sl_1 : Array (Option Value)}
    {f_2 : Addr} {od_2 an_2 : Option Addr} {oc_2 kV_2 dc_2 pm_2 cd_2 ct_2 : Value} {sl_2 : Array (Option Value)}
    {f_3 : Addr} {od_3 an_3 : Option Addr} {oc_3 kV_3 dc_3 pm_3 cd_3 ct_3 : Value} {sl_3 : Array (Option Value)}
    {f_4 : Addr} {od_4 an_4 : Option Addr} {oc_4 kV_4 dc_4 pm_4 cd_4 ct_4 : Value} {sl_4 : Array (Option Value)}
    {f_5 : Addr} {od_5 an_5 : Option Addr} {oc_5 kV_5 dc_5 pm_5 cd_5 ct_5 : Value} {sl_5 : Array (Option Value)}
    {f_6 : Addr} {od_6 an_6 : Option Addr} {oc_6 kV_6 dc_6 pm_6 cd_6 ct_6 : Value} {sl_6 : Array (Option Value)}
    {f_7 : Addr} {od_7 an_7 : Option Addr} {oc_7 kV_7 dc_7 pm_7 cd_7 ct_7 : Value} {sl_7 : Array (Option Value)}
    {f_8 : Addr} {od_8 an_8 : Option Addr} {oc_8 kV_8 dc_8 pm_8 cd_8 ct_8 : Value} {sl_8 : Array (Option Value)}
    {f_9 : Addr} {od_9 an_9 : Option Addr} {oc_9 kV_9 dc_9 pm_9 cd_9 ct_9 : Value} {sl_9 : Array (Option Value)}
    {T_9 : Addr} {tc_9 : Value} {td_9 : Option Addr} {ts_9 : Array (Option Value)} {tn_9 : Nat}
    {tt_9 : Tok}
    {f_10 : Addr} {od_10 an_10 : Option Addr} {oc_10 kV_10 dc_10 pm_10 cd_10 ct_10 : Value} {sl_10 : Array (Option Value)}
    {f_11 : Addr} {od_11 an_11 : Option Addr} {oc_11 kV_11 dc_11 pm_11 cd_11 ct_11 : Value} {sl_11 : Array (Option Value)}
    {f_12 : Addr} {od_12 an_12 : Option Addr} {oc_12 kV_12 dc_12 pm_12 cd_12 ct_12 : Value} {sl_12 : Array (Option Value)}
    {f_13 : Addr} {od_13 an_13 : Option Addr} {oc_13 kV_13 dc_13 pm_13 cd_13 ct_13 : Value} {sl_13 : Array (Option Value)}
    {f_14 : Addr} {od_14 an_14 : Option Addr} {oc_14 kV_14 dc_14 pm_14 cd_14 ct_14 : Value} {sl_14 : Array (Option Value)}
    {f_15 : Addr} {od_15 an_15 : Option Addr} {oc_15 kV_15 dc_15 pm_15 cd_15 ct_15 : Value} {sl_15 : Array (Option Value)}
    {f_16 : Addr} {od_16 an_16 : Option Addr} {oc_16 kV_16 dc_16 pm_16 cd_16 ct_16 : Value} {sl_16 : Array (Option Value)}
    {p_16 : Addr} {re_16 : List Value}
    {f_17 : Addr} {od_17 an_17 : Option Addr} {oc_17 kV_17 dc_17 pm_17 cd_17 ct_17 : Value} {sl_17 : Array (Option Value)}
    {p_17 : Addr} {re_17 : List Value}
    {f_18 : Addr} {od_18 an_18 : Option Addr} {oc_18 kV_18 dc_18 pm_18 cd_18 ct_18 : Value} {sl_18 : Array (Option Value)}
    {f_19 : Addr} {od_19 an_19 : Option Addr} {oc_19 kV_19 dc_19 pm_19 cd_19 ct_19 : Value} {sl_19 : Array (Option Value)}
    {f_20 : Addr} {od_20 an_20 : Option Addr} {oc_20 kV_20 dc_20 pm_20 cd_20 ct_20 : Value} {sl_20 : Array (Option Value)}
    {f_21 : Addr} {od_21 an_21 : Option Addr} {oc_21 kV_21 dc_21 pm_21 cd_21 ct_21 : Value} {sl_21 : Array (Option Value)}
    {f_22 : Addr} {od_22 an_22 : Option Addr} {oc_22 kV_22 dc_22 pm_22 cd_22 ct_22 : Value} {sl_22 : Array (Option Value)}
    {f_23 : Addr} {od_23 an_23 : Option Addr} {oc_23 kV_23 dc_23 pm_23 cd_23 ct_23 : Value} {sl_23 : Array (Option Value)}
    {f_24 : Addr} {od_24 an_24 : Option Addr} {oc_24 kV_24 dc_24 pm_24 cd_24 ct_24 : Value} {sl_24 : Array (Option Value)}
    {f_25 : Addr} {od_25 an_25 : Option Addr} {oc_25 kV_25 dc_25 pm_25 cd_25 ct_25 : Value} {sl_25 : Array (Option Value)}
    {f_26 : Addr} {od_26 an_26 : Option Addr} {oc_26 kV_26 dc_26 pm_26 cd_26 ct_26 : Value} {sl_26 : Array (Option Value)}
    {f_27 : Addr} {od_27 an_27 : Option Addr} {oc_27 kV_27 dc_27 pm_27 cd_27 ct_27 : Value} {sl_27 : Array (Option Value)}
    {f_28 : Addr} {od_28 an_28 : Option Addr} {oc_28 kV_28 dc_28 pm_28 cd_28 ct_28 : Value} {sl_28 : Array (Option Value)}
    {f_29 : Addr} {od_29 an_29 : Option Addr} {oc_29 kV_29 dc_29 pm_29 cd_29 ct_29 : Value} {sl_29 : Array (Option Value)}
    {f_30 : Addr} {od_30 an_30 : Option Addr} {oc_30 kV_30 dc_30 pm_30 cd_30 ct_30 : Value} {sl_30 : Array (Option Value)}
    {cdI_0 : ClassData}
    {cdI_1 : ClassData}
    {cdI_4 : ClassData}
    {uk_0ISSUE : Tok}
    {f_x3 T_x3 : Addr} {od_x3 an_x3 td_x3 : Option Addr} {oc_x3 kV_x3 dc_x3 pm_x3 cd_x3 ct_x3 tc_x3 : Value} {sl_x3 ts_x3 : Array (Option Value)} {tn_x3 : Nat}
    {cdI_3 : ClassData}
    {xnm_3 xq_3 : Str} {xN_3 : Addr} {xbs_3 xsub_3 : List Value} {xsn_3 : List Str} {xab_3 : Bool} {xcol_3 : Option Bool} {xdd_3 : Option Addr} {xm0_3 xm1_3 xm2_3 xm3_3 xm5_3 : Option Value}
    {f_x4 T_x4 : Addr} {od_x4 an_x4 td_x4 : Option Addr} {oc_x4 kV_x4 dc_x4 pm_x4 cd_x4 ct_x4 tc_x4 : Value} {sl_x4 ts_x4 : Array (Option Value)} {tn_x4 : Nat}
    {xnm_4 xq_4 : Str} {xN_4 : Addr} {xbs_4 xsub_4 : List Value} {xsn_4 : List Str} {xab_4 : Bool} {xcol_4 : Option Bool} {xdd_4 : Option Addr} {xm0_4 xm1_4 xm2_4 xm3_4 xm5_4 : Option Value}
    (aC_0 : PySem.W.nsIn K mainGlobals "Behavior" = some (some (.ref C_0)))
    (pg_0 : PySem.W.plainGet K C_0 Str.empty = true)
    (hd_0 : PySem.W.hasDictIn K C_0 = true)
    (po_0 : PySem.W.plainOver K C_0 = true)
    (sa_0 : PySem.W.findIn K (.ref C_0) "__setattr__" = some (some (.builtin "object.__setattr__")))
    (mk_0 : PySem.W.makesIn K C_0 = true)
    (kc_0 : PySem.W.keepIn K (.ref C_0) = true)
    (aC_1 : PySem.W.nsIn K mainGlobals "Rule" = some (some (.ref C_1)))
    (pg_1 : PySem.W.plainGet K C_1 Str.empty = true)
    (hd_1 : PySem.W.hasDictIn K C_1 = true)
    (po_1 : PySem.W.plainOver K C_1 = true)
    (sa_1 : PySem.W.findIn K (.ref C_1) "__setattr__" = some (some (.builtin "object.__setattr__")))
    (mk_1 : PySem.W.makesIn K C_1 = true)
    (kc_1 : PySem.W.keepIn K (.ref C_1) = true)
    (aC_2 : PySem.W.nsIn K mainGlobals "ReissueError" = some (some (.ref C_2)))
    (aC_3 : PySem.W.nsIn K mainGlobals "InvalidBehavior" = some (some (.ref C_3)))
    (aC_4 : PySem.W.nsIn K mainGlobals "InvalidNumber" = some (some (.ref C_4)))
    (a_0 : PySem.W.nsIn K mainGlobals "is_whole" = some (some (.ref f_0)))
    (l_0 : K.lookup f_0 = some ⟨oc_0, od_0, .func (PySem.W.fnOf "is_whole" "is_whole" (defArgs (topS 5)) (defBody (topS 5)) (defScope (topS 5)) .none kV_0 dc_0 pm_0 an_0 cd_0 ct_0), sl_0⟩)
    (c_0 : PySem.W.codeIn K cd_0 "is_whole" = true)
    (k_0 : PySem.W.keepIn K (.ref f_0) = true)
    (a_1 : PySem.W.nsIn K mainGlobals "is_at_least" = some (some (.ref f_1)))
    (l_1 : K.lookup f_1 = some ⟨oc_1, od_1, .func (PySem.W.fnOf "is_at_least" "is_at_least" (defArgs (topS 6)) (defBody (topS 6)) (defScope (topS 6)) .none kV_1 dc_1 pm_1 an_1 cd_1 ct_1), sl_1⟩)
    (c_1 : PySem.W.codeIn K cd_1 "is_at_least" = true)
    (k_1 : PySem.W.keepIn K (.ref f_1) = true)
    (a_2 : PySem.W.nsIn K mainGlobals "is_index" = some (some (.ref f_2)))
    (l_2 : K.lookup f_2 = some ⟨oc_2, od_2, .func (PySem.W.fnOf "is_index" "is_index" (defArgs (topS 7)) (defBody (topS 7)) (defScope (topS 7)) .none kV_2 dc_2 pm_2 an_2 cd_2 ct_2), sl_2⟩)
    (c_2 : PySem.W.codeIn K cd_2 "is_index" = true)
    (k_2 : PySem.W.keepIn K (.ref f_2) = true)
    (a_3 : PySem.W.nsIn K mainGlobals "_is_port" = some (some (.ref f_3)))
    (l_3 : K.lookup f_3 = some ⟨oc_3, od_3, .func (PySem.W.fnOf "_is_port" "_is_port" (defArgs (topS 14)) (defBody (topS 14)) (defScope (topS 14)) .none kV_3 dc_3 pm_3 an_3 cd_3 ct_3), sl_3⟩)
    (c_3 : PySem.W.codeIn K cd_3 "_is_port" = true)
    (k_3 : PySem.W.keepIn K (.ref f_3) = true)
    (a_4 : PySem.W.nsIn K mainGlobals "_are_ports" = some (some (.ref f_4)))
    (l_4 : K.lookup f_4 = some ⟨oc_4, od_4, .func (PySem.W.fnOf "_are_ports" "_are_ports" (defArgs (topS 13)) (defBody (topS 13)) (defScope (topS 13)) .none kV_4 dc_4 pm_4 an_4 cd_4 ct_4), sl_4⟩)
    (c_4 : PySem.W.codeIn K cd_4 "_are_ports" = true)
    (k_4 : PySem.W.keepIn K (.ref f_4) = true)
    (a_5 : PySem.W.nsIn K mainGlobals "_is_link" = some (some (.ref f_5)))
    (l_5 : K.lookup f_5 = some ⟨oc_5, od_5, .func (PySem.W.fnOf "_is_link" "_is_link" (defArgs (topS 12)) (defBody (topS 12)) (defScope (topS 12)) .none kV_5 dc_5 pm_5 an_5 cd_5 ct_5), sl_5⟩)
    (c_5 : PySem.W.codeIn K cd_5 "_is_link" = true)
    (k_5 : PySem.W.keepIn K (.ref f_5) = true)
    (a_6 : PySem.W.nsIn K mainGlobals "_fit" = some (some (.ref f_6)))
    (l_6 : K.lookup f_6 = some ⟨oc_6, od_6, .func (PySem.W.fnOf "_fit" "_fit" (defArgs (topS 11)) (defBody (topS 11)) (defScope (topS 11)) .none kV_6 dc_6 pm_6 an_6 cd_6 ct_6), sl_6⟩)
    (c_6 : PySem.W.codeIn K cd_6 "_fit" = true)
    (k_6 : PySem.W.keepIn K (.ref f_6) = true)
    (a_7 : PySem.W.findIn K (.ref C_0) "__init__" = some (some (.ref f_7)))
    (i_7 : PySem.W.isFn K (.ref f_7) = true)
    (l_7 : K.lookup f_7 = some ⟨oc_7, od_7, .func (PySem.W.fnOf "__init__" "Behavior.__init__" (defArgs (clsS 10 2)) (defBody (clsS 10 2)) (defScope (clsS 10 2)) .none kV_7 dc_7 pm_7 an_7 cd_7 ct_7), sl_7⟩)
    (c_7 : PySem.W.codeIn K cd_7 "Behavior.__init__" = true)
    (k_7 : PySem.W.keepIn K (.ref f_7) = true)
    (a_8 : PySem.W.nsIn K mainGlobals "check_at_least" = some (some (.ref f_8)))
    (l_8 : K.lookup f_8 = some ⟨oc_8, od_8, .func (PySem.W.fnOf "check_at_least" "check_at_least" (defArgs (topS 8)) (defBody (topS 8)) (defScope (topS 8)) .none kV_8 dc_8 pm_8 an_8 cd_8 ct_8), sl_8⟩)
    (c_8 : PySem.W.codeIn K cd_8 "check_at_least" = true)
    (k_8 : PySem.W.keepIn K (.ref f_8) = true)
    (a_9 : PySem.W.findIn K (.ref C_1) "__init__" = some (some (.ref f_9)))
    (i_9 : PySem.W.isFn K (.ref f_9) = true)
    (l_9 : K.lookup f_9 = some ⟨oc_9, od_9, .func (PySem.W.fnOf "__init__" "Rule.__init__" (defArgs (clsS 16 0)) (defBody (clsS 16 0)) (defScope (clsS 16 0)) (.ref T_9) kV_9 dc_9 pm_9 an_9 cd_9 ct_9), sl_9⟩)
    (dt_9 : K.lookup T_9 = some ⟨tc_9, td_9, .seq [Value.int 1 tt_9].toArray tn_9, ts_9⟩)
    (c_9 : PySem.W.codeIn K cd_9 "Rule.__init__" = true)
    (k_9 : PySem.W.keepIn K (.ref f_9) = true)
    (a_10 : PySem.W.findIn K (.ref C_0) "__eq__" = some (some (.ref f_10)))
    (i_10 : PySem.W.isFn K (.ref f_10) = true)
    (l_10 : K.lookup f_10 = some ⟨oc_10, od_10, .func (PySem.W.fnOf "__eq__" "Behavior.__eq__" (defArgs (clsS 10 7)) (defBody (clsS 10 7)) (defScope (clsS 10 7)) .none kV_10 dc_10 pm_10 an_10 cd_10 ct_10), sl_10⟩)
    (c_10 : PySem.W.codeIn K cd_10 "Behavior.__eq__" = true)
    (k_10 : PySem.W.keepIn K (.ref f_10) = true)
    (a_11 : PySem.W.findIn K (.ref C_1) "__eq__" = some (some (.ref f_11)))
    (i_11 : PySem.W.isFn K (.ref f_11) = true)
    (l_11 : K.lookup f_11 = some ⟨oc_11, od_11, .func (PySem.W.fnOf "__eq__" "Rule.__eq__" (defArgs (clsS 16 3)) (defBody (clsS 16 3)) (defScope (clsS 16 3)) .none kV_11 dc_11 pm_11 an_11 cd_11 ct_11), sl_11⟩)
    (c_11 : PySem.W.codeIn K cd_11 "Rule.__eq__" = true)
    (k_11 : PySem.W.keepIn K (.ref f_11) = true)
    (a_12 : PySem.W.nsIn K mainGlobals "_law_shown" = some (some (.ref f_12)))
    (l_12 : K.lookup f_12 = some ⟨oc_12, od_12, .func (PySem.W.fnOf "_law_shown" "_law_shown" (defArgs (topS 23)) (defBody (topS 23)) (defScope (topS 23)) .none kV_12 dc_12 pm_12 an_12 cd_12 ct_12), sl_12⟩)
    (c_12 : PySem.W.codeIn K cd_12 "_law_shown" = true)
    (k_12 : PySem.W.keepIn K (.ref f_12) = true)
    (a_13 : PySem.W.nsIn K mainGlobals "_law_caught" = some (some (.ref f_13)))
    (l_13 : K.lookup f_13 = some ⟨oc_13, od_13, .func (PySem.W.fnOf "_law_caught" "_law_caught" (defArgs (topS 28)) (defBody (topS 28)) (defScope (topS 28)) .none kV_13 dc_13 pm_13 an_13 cd_13 ct_13), sl_13⟩)
    (c_13 : PySem.W.codeIn K cd_13 "_law_caught" = true)
    (k_13 : PySem.W.keepIn K (.ref f_13) = true)
    (a_14 : PySem.W.nsIn K mainGlobals "_law_refused" = some (some (.ref f_14)))
    (l_14 : K.lookup f_14 = some ⟨oc_14, od_14, .func (PySem.W.fnOf "_law_refused" "_law_refused" (defArgs (topS 29)) (defBody (topS 29)) (defScope (topS 29)) .none kV_14 dc_14 pm_14 an_14 cd_14 ct_14), sl_14⟩)
    (c_14 : PySem.W.codeIn K cd_14 "_law_refused" = true)
    (k_14 : PySem.W.keepIn K (.ref f_14) = true)
    (a_15 : PySem.W.nsIn K mainGlobals "_law_purse" = some (some (.ref f_15)))
    (l_15 : K.lookup f_15 = some ⟨oc_15, od_15, .func (PySem.W.fnOf "_law_purse" "_law_purse" (defArgs (topS 21)) (defBody (topS 21)) (defScope (topS 21)) .none kV_15 dc_15 pm_15 an_15 cd_15 ct_15), sl_15⟩)
    (c_15 : PySem.W.codeIn K cd_15 "_law_purse" = true)
    (k_15 : PySem.W.keepIn K (.ref f_15) = true)
    (a_16 : PySem.W.findIn K (.ref C_1) "turns" = some (some (.ref p_16)))
    (g_16 : PySem.W.specialIn K (.ref p_16) "__get__" = some (some (.builtin "property.__get__")))
    (t_16 : PySem.W.takesIn K (.ref p_16) = some true)
    (r_16 : PySem.W.recIn K p_16 "property" = some (.ref f_16 :: re_16))
    (l_16 : K.lookup f_16 = some ⟨oc_16, od_16, .func (PySem.W.fnOf "turns" "Rule.turns" (defArgs (clsS 16 2)) (defBody (clsS 16 2)) (defScope (clsS 16 2)) .none kV_16 dc_16 pm_16 an_16 cd_16 ct_16), sl_16⟩)
    (c_16 : PySem.W.codeIn K cd_16 "Rule.turns" = true)
    (k_16 : PySem.W.keepIn K (.ref f_16) = true)
    (a_17 : PySem.W.findIn K (.ref C_1) "wait" = some (some (.ref p_17)))
    (g_17 : PySem.W.specialIn K (.ref p_17) "__get__" = some (some (.builtin "property.__get__")))
    (t_17 : PySem.W.takesIn K (.ref p_17) = some true)
    (r_17 : PySem.W.recIn K p_17 "property" = some (.ref f_17 :: re_17))
    (l_17 : K.lookup f_17 = some ⟨oc_17, od_17, .func (PySem.W.fnOf "wait" "Rule.wait" (defArgs (clsS 16 1)) (defBody (clsS 16 1)) (defScope (clsS 16 1)) .none kV_17 dc_17 pm_17 an_17 cd_17 ct_17), sl_17⟩)
    (c_17 : PySem.W.codeIn K cd_17 "Rule.wait" = true)
    (k_17 : PySem.W.keepIn K (.ref f_17) = true)
    (a_18 : PySem.W.nsIn K mainGlobals "_product" = some (some (.ref f_18)))
    (l_18 : K.lookup f_18 = some ⟨oc_18, od_18, .func (PySem.W.fnOf "_product" "_product" (defArgs (topS 18)) (defBody (topS 18)) (defScope (topS 18)) .none kV_18 dc_18 pm_18 an_18 cd_18 ct_18), sl_18⟩)
    (c_18 : PySem.W.codeIn K cd_18 "_product" = true)
    (k_18 : PySem.W.keepIn K (.ref f_18) = true)
    (a_19 : PySem.W.nsIn K mainGlobals "_is_at_most" = some (some (.ref f_19)))
    (l_19 : K.lookup f_19 = some ⟨oc_19, od_19, .func (PySem.W.fnOf "_is_at_most" "_is_at_most" (defArgs (topS 17)) (defBody (topS 17)) (defScope (topS 17)) .none kV_19 dc_19 pm_19 an_19 cd_19 ct_19), sl_19⟩)
    (c_19 : PySem.W.codeIn K cd_19 "_is_at_most" = true)
    (k_19 : PySem.W.keepIn K (.ref f_19) = true)
    (a_20 : PySem.W.findIn K (.ref C_1) "__gt__" = some (some (.ref f_20)))
    (i_20 : PySem.W.isFn K (.ref f_20) = true)
    (l_20 : K.lookup f_20 = some ⟨oc_20, od_20, .func (PySem.W.fnOf "__gt__" "Rule.__gt__" (defArgs (clsS 16 7)) (defBody (clsS 16 7)) (defScope (clsS 16 7)) .none kV_20 dc_20 pm_20 an_20 cd_20 ct_20), sl_20⟩)
    (c_20 : PySem.W.codeIn K cd_20 "Rule.__gt__" = true)
    (k_20 : PySem.W.keepIn K (.ref f_20) = true)
    (a_21 : PySem.W.nsIn K mainGlobals "_law_mixed" = some (some (.ref f_21)))
    (l_21 : K.lookup f_21 = some ⟨oc_21, od_21, .func (PySem.W.fnOf "_law_mixed" "_law_mixed" (defArgs (topS 20)) (defBody (topS 20)) (defScope (topS 20)) .none kV_21 dc_21 pm_21 an_21 cd_21 ct_21), sl_21⟩)
    (c_21 : PySem.W.codeIn K cd_21 "_law_mixed" = true)
    (k_21 : PySem.W.keepIn K (.ref f_21) = true)
    (a_22 : PySem.W.nsIn K mainGlobals "_law_draw" = some (some (.ref f_22)))
    (l_22 : K.lookup f_22 = some ⟨oc_22, od_22, .func (PySem.W.fnOf "_law_draw" "_law_draw" (defArgs (topS 22)) (defBody (topS 22)) (defScope (topS 22)) .none kV_22 dc_22 pm_22 an_22 cd_22 ct_22), sl_22⟩)
    (c_22 : PySem.W.codeIn K cd_22 "_law_draw" = true)
    (k_22 : PySem.W.keepIn K (.ref f_22) = true)
    (a_23 : PySem.W.nsIn K mainGlobals "_law_numbers" = some (some (.ref f_23)))
    (l_23 : K.lookup f_23 = some ⟨oc_23, od_23, .func (PySem.W.fnOf "_law_numbers" "_law_numbers" (defArgs (topS 24)) (defBody (topS 24)) (defScope (topS 24)) .none kV_23 dc_23 pm_23 an_23 cd_23 ct_23), sl_23⟩)
    (c_23 : PySem.W.codeIn K cd_23 "_law_numbers" = true)
    (k_23 : PySem.W.keepIn K (.ref f_23) = true)
    (a_24 : PySem.W.nsIn K mainGlobals "_law_rule" = some (some (.ref f_24)))
    (l_24 : K.lookup f_24 = some ⟨oc_24, od_24, .func (PySem.W.fnOf "_law_rule" "_law_rule" (defArgs (topS 25)) (defBody (topS 25)) (defScope (topS 25)) .none kV_24 dc_24 pm_24 an_24 cd_24 ct_24), sl_24⟩)
    (c_24 : PySem.W.codeIn K cd_24 "_law_rule" = true)
    (k_24 : PySem.W.keepIn K (.ref f_24) = true)
    (a_25 : PySem.W.nsIn K mainGlobals "_law_alone" = some (some (.ref f_25)))
    (l_25 : K.lookup f_25 = some ⟨oc_25, od_25, .func (PySem.W.fnOf "_law_alone" "_law_alone" (defArgs (topS 27)) (defBody (topS 27)) (defScope (topS 27)) .none kV_25 dc_25 pm_25 an_25 cd_25 ct_25), sl_25⟩)
    (c_25 : PySem.W.codeIn K cd_25 "_law_alone" = true)
    (k_25 : PySem.W.keepIn K (.ref f_25) = true)
    (a_26 : PySem.W.findIn K (.ref C_1) "__le__" = some (some (.ref f_26)))
    (i_26 : PySem.W.isFn K (.ref f_26) = true)
    (l_26 : K.lookup f_26 = some ⟨oc_26, od_26, .func (PySem.W.fnOf "__le__" "Rule.__le__" (defArgs (clsS 16 4)) (defBody (clsS 16 4)) (defScope (clsS 16 4)) .none kV_26 dc_26 pm_26 an_26 cd_26 ct_26), sl_26⟩)
    (c_26 : PySem.W.codeIn K cd_26 "Rule.__le__" = true)
    (k_26 : PySem.W.keepIn K (.ref f_26) = true)
    (a_27 : PySem.W.findIn K (.ref C_1) "__ge__" = some (some (.ref f_27)))
    (i_27 : PySem.W.isFn K (.ref f_27) = true)
    (l_27 : K.lookup f_27 = some ⟨oc_27, od_27, .func (PySem.W.fnOf "__ge__" "Rule.__ge__" (defArgs (clsS 16 6)) (defBody (clsS 16 6)) (defScope (clsS 16 6)) .none kV_27 dc_27 pm_27 an_27 cd_27 ct_27), sl_27⟩)
    (c_27 : PySem.W.codeIn K cd_27 "Rule.__ge__" = true)
    (k_27 : PySem.W.keepIn K (.ref f_27) = true)
    (a_28 : PySem.W.findIn K (.ref C_1) "__lt__" = some (some (.ref f_28)))
    (i_28 : PySem.W.isFn K (.ref f_28) = true)
    (l_28 : K.lookup f_28 = some ⟨oc_28, od_28, .func (PySem.W.fnOf "__lt__" "Rule.__lt__" (defArgs (clsS 16 5)) (defBody (clsS 16 5)) (defScope (clsS 16 5)) .none kV_28 dc_28 pm_28 an_28 cd_28 ct_28), sl_28⟩)
    (c_28 : PySem.W.codeIn K cd_28 "Rule.__lt__" = true)
    (k_28 : PySem.W.keepIn K (.ref f_28) = true)
    (a_29 : PySem.W.nsIn K mainGlobals "_law_right" = some (some (.ref f_29)))
    (l_29 : K.lookup f_29 = some ⟨oc_29, od_29, .func (PySem.W.fnOf "_law_right" "_law_right" (defArgs (topS 26)) (defBody (topS 26)) (defScope (topS 26)) .none kV_29 dc_29 pm_29 an_29 cd_29 ct_29), sl_29⟩)
    (c_29 : PySem.W.codeIn K cd_29 "_law_right" = true)
    (k_29 : PySem.W.keepIn K (.ref f_29) = true)
    (a_30 : PySem.W.nsIn K mainGlobals "law" = some (some (.ref f_30)))
    (l_30 : K.lookup f_30 = some ⟨oc_30, od_30, .func (PySem.W.fnOf "law" "law" (defArgs (topS 30)) (defBody (topS 30)) (defScope (topS 30)) .none kV_30 dc_30 pm_30 an_30 cd_30 ct_30), sl_30⟩)
    (c_30 : PySem.W.codeIn K cd_30 "law" = true)
    (k_30 : PySem.W.keepIn K (.ref f_30) = true)
    (z_all : PySem.W.nsIn K mainGlobals "all" = some none)
    (z_bool : PySem.W.nsIn K mainGlobals "bool" = some none)
    (z_int : PySem.W.nsIn K mainGlobals "int" = some none)
    (z_isinstance : PySem.W.nsIn K mainGlobals "isinstance" = some none)
    (z_len : PySem.W.nsIn K mainGlobals "len" = some none)
    (z_list : PySem.W.nsIn K mainGlobals "list" = some none)
    (z_max : PySem.W.nsIn K mainGlobals "max" = some none)
    (z_range : PySem.W.nsIn K mainGlobals "range" = some none)
    (z_repr : PySem.W.nsIn K mainGlobals "repr" = some none)
    (z_set : PySem.W.nsIn K mainGlobals "set" = some none)
    (z_sorted : PySem.W.nsIn K mainGlobals "sorted" = some none)
    (z_str : PySem.W.nsIn K mainGlobals "str" = some none)
    (z_sum : PySem.W.nsIn K mainGlobals "sum" = some none)
    (z_tuple : PySem.W.nsIn K mainGlobals "tuple" = some none)
    (iha_0 : PySem.W.findIn K (.ref C_0) "__class__" = some (some (.builtin "object.__class__")))
    (ihm_0 : PySem.W.mroIn K C_0 (.type "object") = some true)
    (f1NoneType_0 : PySem.W.notFirst K C_0 (.type "NoneType") = true)
    (f1bool_0 : PySem.W.notFirst K C_0 (.type "bool") = true)
    (f1int_0 : PySem.W.notFirst K C_0 (.type "int") = true)
    (f1str_0 : PySem.W.notFirst K C_0 (.type "str") = true)
    (f1list_0 : PySem.W.notFirst K C_0 (.type "list") = true)
    (f1tuple_0 : PySem.W.notFirst K C_0 (.type "tuple") = true)
    (f1dict_0 : PySem.W.notFirst K C_0 (.type "dict") = true)
    (f2_0_0 : PySem.W.notFirst K C_0 (.ref C_0) = true)
    (f2_0_1 : PySem.W.notFirst K C_0 (.ref C_1) = true)
    (f3NoneType_0 : PySem.W.subIn K (.ref C_0) (.type "NoneType") = some false)
    (f3bool_0 : PySem.W.subIn K (.ref C_0) (.type "bool") = some false)
    (f3int_0 : PySem.W.subIn K (.ref C_0) (.type "int") = some false)
    (f3str_0 : PySem.W.subIn K (.ref C_0) (.type "str") = some false)
    (f3list_0 : PySem.W.subIn K (.ref C_0) (.type "list") = some false)
    (f3tuple_0 : PySem.W.subIn K (.ref C_0) (.type "tuple") = some false)
    (f3dict_0 : PySem.W.subIn K (.ref C_0) (.type "dict") = some false)
    (f4_0 : PySem.W.findIn K (.ref C_0) "__ne__" = some (some (.builtin "object.__ne__")))
    (iha_1 : PySem.W.findIn K (.ref C_1) "__class__" = some (some (.builtin "object.__class__")))
    (ihm_1 : PySem.W.mroIn K C_1 (.type "object") = some true)
    (f1NoneType_1 : PySem.W.notFirst K C_1 (.type "NoneType") = true)
    (f1bool_1 : PySem.W.notFirst K C_1 (.type "bool") = true)
    (f1int_1 : PySem.W.notFirst K C_1 (.type "int") = true)
    (f1str_1 : PySem.W.notFirst K C_1 (.type "str") = true)
    (f1list_1 : PySem.W.notFirst K C_1 (.type "list") = true)
    (f1tuple_1 : PySem.W.notFirst K C_1 (.type "tuple") = true)
    (f1dict_1 : PySem.W.notFirst K C_1 (.type "dict") = true)
    (f2_1_0 : PySem.W.notFirst K C_1 (.ref C_0) = true)
    (f2_1_1 : PySem.W.notFirst K C_1 (.ref C_1) = true)
    (f3NoneType_1 : PySem.W.subIn K (.ref C_1) (.type "NoneType") = some false)
    (f3bool_1 : PySem.W.subIn K (.ref C_1) (.type "bool") = some false)
    (f3int_1 : PySem.W.subIn K (.ref C_1) (.type "int") = some false)
    (f3str_1 : PySem.W.subIn K (.ref C_1) (.type "str") = some false)
    (f3list_1 : PySem.W.subIn K (.ref C_1) (.type "list") = some false)
    (f3tuple_1 : PySem.W.subIn K (.ref C_1) (.type "tuple") = some false)
    (f3dict_1 : PySem.W.subIn K (.ref C_1) (.type "dict") = some false)
    (f4_1 : PySem.W.findIn K (.ref C_1) "__ne__" = some (some (.builtin "object.__ne__")))
    (em_3_2 : PySem.W.exmOne K (.ref C_3) (.ref C_2) = some true)
    (em_4_2 : PySem.W.exmOne K (.ref C_4) (.ref C_2) = some true)
    (icl_0 : PySem.W.clsIn K C_0 = some cdI_0)
    (ity_0 : PySem.W.typeIn K (.ref C_0) = some (.type "type"))
    (s1NoneType_0 : PySem.W.subIn K (.type "NoneType") (.ref C_0) = some false)
    (s1bool_0 : PySem.W.subIn K (.type "bool") (.ref C_0) = some false)
    (s1int_0 : PySem.W.subIn K (.type "int") (.ref C_0) = some false)
    (s1str_0 : PySem.W.subIn K (.type "str") (.ref C_0) = some false)
    (s1list_0 : PySem.W.subIn K (.type "list") (.ref C_0) = some false)
    (s1tuple_0 : PySem.W.subIn K (.type "tuple") (.ref C_0) = some false)
    (s1dict_0 : PySem.W.subIn K (.type "dict") (.ref C_0) = some false)
    (ihn : PySem.W.specialIn K (.builtin "object.__class__") "__get__" = some (some (.builtin "getset_descriptor.__get__")))
    (itk : PySem.W.takesIn K (.builtin "object.__class__") = some true)
    (n1NoneType_0 : PySem.W.kitOne K (.type "NoneType") (.ref C_0) = some false)
    (n1bool_0 : PySem.W.kitOne K (.type "bool") (.ref C_0) = some false)
    (n2bool_0 : PySem.W.kitOne K (.ref C_0) (.type "bool") = some false)
    (n1int_0 : PySem.W.kitOne K (.type "int") (.ref C_0) = some false)
    (n2int_0 : PySem.W.kitOne K (.ref C_0) (.type "int") = some false)
    (n1str_0 : PySem.W.kitOne K (.type "str") (.ref C_0) = some false)
    (n2str_0 : PySem.W.kitOne K (.ref C_0) (.type "str") = some false)
    (n1list_0 : PySem.W.kitOne K (.type "list") (.ref C_0) = some false)
    (n2list_0 : PySem.W.kitOne K (.ref C_0) (.type "list") = some false)
    (n1tuple_0 : PySem.W.kitOne K (.type "tuple") (.ref C_0) = some false)
    (n2tuple_0 : PySem.W.kitOne K (.ref C_0) (.type "tuple") = some false)
    (n1dict_0 : PySem.W.kitOne K (.type "dict") (.ref C_0) = some false)
    (n2dict_0 : PySem.W.kitOne K (.ref C_0) (.type "dict") = some false)
    (n1NoneType_1 : PySem.W.kitOne K (.type "NoneType") (.ref C_1) = some false)
    (n1bool_1 : PySem.W.kitOne K (.type "bool") (.ref C_1) = some false)
    (n2bool_1 : PySem.W.kitOne K (.ref C_1) (.type "bool") = some false)
    (n1int_1 : PySem.W.kitOne K (.type "int") (.ref C_1) = some false)
    (n2int_1 : PySem.W.kitOne K (.ref C_1) (.type "int") = some false)
    (n1str_1 : PySem.W.kitOne K (.type "str") (.ref C_1) = some false)
    (n2str_1 : PySem.W.kitOne K (.ref C_1) (.type "str") = some false)
    (n1list_1 : PySem.W.kitOne K (.type "list") (.ref C_1) = some false)
    (n2list_1 : PySem.W.kitOne K (.ref C_1) (.type "list") = some false)
    (n1tuple_1 : PySem.W.kitOne K (.type "tuple") (.ref C_1) = some false)
    (n2tuple_1 : PySem.W.kitOne K (.ref C_1) (.type "tuple") = some false)
    (n1dict_1 : PySem.W.kitOne K (.type "dict") (.ref C_1) = some false)
    (n2dict_1 : PySem.W.kitOne K (.ref C_1) (.type "dict") = some false)
    (iha_3 : PySem.W.findIn K (.ref C_3) "__class__" = some (some (.builtin "object.__class__")))
    (ihm_3 : PySem.W.mroIn K C_3 (.type "object") = some true)
    (xga_3 : PySem.W.findIn K (.ref C_3) "__getattribute__" = some (some (.builtin "BaseException.__getattribute__")))
    (xgg_3 : PySem.W.findIn K (.ref C_3) "__getattr__" = some none)
    (xbe_3 : PySem.W.subIn K (.ref C_3) (.type "BaseException") = some true)
    (xhd_3 : PySem.W.hasDictIn K C_3 = true)
    (iha_4 : PySem.W.findIn K (.ref C_4) "__class__" = some (some (.builtin "object.__class__")))
    (ihm_4 : PySem.W.mroIn K C_4 (.type "object") = some true)
    (xga_4 : PySem.W.findIn K (.ref C_4) "__getattribute__" = some (some (.builtin "BaseException.__getattribute__")))
    (xgg_4 : PySem.W.findIn K (.ref C_4) "__getattr__" = some none)
    (xbe_4 : PySem.W.subIn K (.ref C_4) (.type "BaseException") = some true)
    (xhd_4 : PySem.W.hasDictIn K C_4 = true)
    (kk_0_0 : PySem.W.kitOne K (.ref C_0) (.ref C_0) = some true)
    (kk_1_0 : PySem.W.kitOne K (.ref C_1) (.ref C_0) = some false)
    (kk_3_0 : PySem.W.kitOne K (.ref C_3) (.ref C_0) = some false)
    (kk_4_0 : PySem.W.kitOne K (.ref C_4) (.ref C_0) = some false)
    (icl_1 : PySem.W.clsIn K C_1 = some cdI_1)
    (ity_1 : PySem.W.typeIn K (.ref C_1) = some (.type "type"))
    (s1NoneType_1 : PySem.W.subIn K (.type "NoneType") (.ref C_1) = some false)
    (s1bool_1 : PySem.W.subIn K (.type "bool") (.ref C_1) = some false)
    (s1int_1 : PySem.W.subIn K (.type "int") (.ref C_1) = some false)
    (s1str_1 : PySem.W.subIn K (.type "str") (.ref C_1) = some false)
    (s1list_1 : PySem.W.subIn K (.type "list") (.ref C_1) = some false)
    (s1tuple_1 : PySem.W.subIn K (.type "tuple") (.ref C_1) = some false)
    (s1dict_1 : PySem.W.subIn K (.type "dict") (.ref C_1) = some false)
    (kk_0_1 : PySem.W.kitOne K (.ref C_0) (.ref C_1) = some false)
    (kk_1_1 : PySem.W.kitOne K (.ref C_1) (.ref C_1) = some true)
    (kk_3_1 : PySem.W.kitOne K (.ref C_3) (.ref C_1) = some false)
    (kk_4_1 : PySem.W.kitOne K (.ref C_4) (.ref C_1) = some false)
    (icl_4 : PySem.W.clsIn K C_4 = some cdI_4)
    (ity_4 : PySem.W.typeIn K (.ref C_4) = some (.type "type"))
    (s1NoneType_4 : PySem.W.subIn K (.type "NoneType") (.ref C_4) = some false)
    (s1bool_4 : PySem.W.subIn K (.type "bool") (.ref C_4) = some false)
    (s1int_4 : PySem.W.subIn K (.type "int") (.ref C_4) = some false)
    (s1str_4 : PySem.W.subIn K (.type "str") (.ref C_4) = some false)
    (s1list_4 : PySem.W.subIn K (.type "list") (.ref C_4) = some false)
    (s1tuple_4 : PySem.W.subIn K (.type "tuple") (.ref C_4) = some false)
    (s1dict_4 : PySem.W.subIn K (.type "dict") (.ref C_4) = some false)
    (kk_0_4 : PySem.W.kitOne K (.ref C_0) (.ref C_4) = some false)
    (kk_1_4 : PySem.W.kitOne K (.ref C_1) (.ref C_4) = some false)
    (kk_3_4 : PySem.W.kitOne K (.ref C_3) (.ref C_4) = some false)
    (kk_4_4 : PySem.W.kitOne K (.ref C_4) (.ref C_4) = some true)
    (rd_0 : PySem.W.readsIn K C_0 (.type "type") = true)
    (ga_0 : PySem.W.specialIn K (.ref C_0) "__getattribute__" = some (some (.builtin "type.__getattribute__")))
    (yk_0ISSUE : PySem.W.findCls K (.ref C_0) (.type "type") "ISSUE" = some (.val (.int 0 uk_0ISSUE)))
    (yna_0_events : PySem.W.findIn K (.ref C_0) "_events" = some none)
    (yna_0_heard : PySem.W.findIn K (.ref C_0) "_heard" = some none)
    (yna_0_links : PySem.W.findIn K (.ref C_0) "_links" = some none)
    (yna_0_opens : PySem.W.findIn K (.ref C_0) "_opens" = some none)
    (yna_1_turns : PySem.W.findIn K (.ref C_1) "_turns" = some none)
    (yna_1_wait : PySem.W.findIn K (.ref C_1) "_wait" = some none)
    (xnvalue_3 : PySem.W.findIn K (.ref C_3) "value" = some none)
    (xnvalue_4 : PySem.W.findIn K (.ref C_4) "value" = some none)
    (icl_3 : PySem.W.clsIn K C_3 = some cdI_3)
    (ity_3 : PySem.W.typeIn K (.ref C_3) = some (.type "type"))
    (xl_3 : K.lookup C_3 = some (excClassObj xnm_3 xq_3 C_3 xN_3 xbs_3 [.ref C_2, .type "ValueError", .type "Exception", .type "BaseException", .type "object"] true xsn_3 xsub_3 xab_3 xcol_3 xdd_3 xm0_3 xm1_3 xm2_3 xm3_3 xm5_3 "ValueError.__new__"))
    (xsa_3 : PySem.W.findIn K (.ref C_3) "__setattr__" = some (some (.builtin "object.__setattr__")))
    (xkc_3 : PySem.W.keepIn K (.ref C_3) = true)
    (a_x3 : PySem.W.findIn K (.ref C_3) "__init__" = some (some (.ref f_x3)))
    (t_x3 : PySem.W.typeIn K (.ref f_x3) = some (.type "function"))
    (l_x3 : K.lookup f_x3 = some ⟨oc_x3, od_x3, .func (PySem.W.fnOf "__init__" "InvalidBehavior.__init__" (defArgs (clsS 2 0)) (defBody (clsS 2 0)) (defScope (clsS 2 0)) (.ref T_x3) kV_x3 dc_x3 pm_x3 an_x3 cd_x3 ct_x3), sl_x3⟩)
    (dt_x3 : K.lookup T_x3 = some ⟨tc_x3, td_x3, .seq [Value.none].toArray tn_x3, ts_x3⟩)
    (c_x3 : PySem.W.codeIn K cd_x3 "InvalidBehavior.__init__" = true)
    (k_x3 : PySem.W.keepIn K (.ref f_x3) = true)
    (xl_4 : K.lookup C_4 = some (excClassObj xnm_4 xq_4 C_4 xN_4 xbs_4 [.ref C_2, .type "ValueError", .type "Exception", .type "BaseException", .type "object"] true xsn_4 xsub_4 xab_4 xcol_4 xdd_4 xm0_4 xm1_4 xm2_4 xm3_4 xm5_4 "ValueError.__new__"))
    (xsa_4 : PySem.W.findIn K (.ref C_4) "__setattr__" = some (some (.builtin "object.__setattr__")))
    (xkc_4 : PySem.W.keepIn K (.ref C_4) = true)
    (a_x4 : PySem.W.findIn K (.ref C_4) "__init__" = some (some (.ref f_x4)))
    (t_x4 : PySem.W.typeIn K (.ref f_x4) = some (.type "function"))
    (l_x4 : K.lookup f_x4 = some ⟨oc_x4, od_x4, .func (PySem.W.fnOf "__init__" "InvalidNumber.__init__" (defArgs (clsS 3 0)) (defBody (clsS 3 0)) (defScope (clsS 3 0)) (.ref T_x4) kV_x4 dc_x4 pm_x4 an_x4 cd_x4 ct_x4), sl_x4⟩)
    (dt_x4 : K.lookup T_x4 = some ⟨tc_x4, td_x4, .seq [Value.none].toArray tn_x4, ts_x4⟩)
    (c_x4 : PySem.W.codeIn K cd_x4 "InvalidNumber.__init__" = true)
    (k_x4 : PySem.W.keepIn K (.ref f_x4) = true)
    : ∃ fd : FuncData, (∀ (s : Shared) (v : Value), BindsTo s fd ⟨[v], []⟩ [("_law_script", v)]) ∧ ∀ base : Heap, K.In base → base.Ns mainGlobals mg → FnG l.prog w K mg base 10 fa fd ["_law_script"] (spLaw K) := by
  have e := hfa.symm.trans (PySem.W.mg_of X G a_30)
  cases e
  have T : Txt mg K (fun i => ([C_0, C_1, C_2, C_3, C_4] : List Addr).getD i 0) := {
    b_all := PySem.W.mg_none_of X G z_all
    b_bool := PySem.W.mg_none_of X G z_bool
    b_int := PySem.W.mg_none_of X G z_int
    b_isinstance := PySem.W.mg_none_of X G z_isinstance
    b_len := PySem.W.mg_none_of X G z_len
    b_list := PySem.W.mg_none_of X G z_list
    b_max := PySem.W.mg_none_of X G z_max
    b_range := PySem.W.mg_none_of X G z_range
    b_repr := PySem.W.mg_none_of X G z_repr
    b_set := PySem.W.mg_none_of X G z_set
    b_sorted := PySem.W.mg_none_of X G z_sorted
    b_str := PySem.W.mg_none_of X G z_str
    b_sum := PySem.W.mg_none_of X G z_sum
    b_tuple := PySem.W.mg_none_of X G z_tuple
    cl_0 := ⟨pg_0, hd_0, po_0, sa_0⟩
    cl_1 := ⟨pg_1, hd_1, po_1, sa_1⟩
    cm := in2 ⟨k7 f1NoneType_0 f1bool_0 f1int_0 f1str_0 f1list_0 f1tuple_0 f1dict_0, in2 f2_0_0 f2_0_1, k7 f3NoneType_0 f3bool_0 f3int_0 f3str_0 f3list_0 f3tuple_0 f3dict_0, f4_0, ihm_0⟩ ⟨k7 f1NoneType_1 f1bool_1 f1int_1 f1str_1 f1list_1 f1tuple_1 f1dict_1, in2 f2_1_0 f2_1_1, k7 f3NoneType_1 f3bool_1 f3int_1 f3str_1 f3list_1 f3tuple_1 f3dict_1, f4_1, ihm_1⟩
    ex_ReissueError := in2 em_3_2 em_4_2
    g_Behavior := ⟨_, .ref C_0, PySem.W.mg_of X G aC_0, rfl, fun _ _ => .cls 0⟩
    g_InvalidNumber := ⟨_, .ref C_4, PySem.W.mg_of X G aC_4, rfl, fun _ _ => .cls 4⟩
    g_Rule := ⟨_, .ref C_1, PySem.W.mg_of X G aC_1, rfl, fun _ _ => .cls 1⟩
    is_0 := ⟨in2 ⟨⟨pg_0, hd_0, po_0, sa_0⟩, iha_0, ihn, itk, ihm_0, k7 ⟨n1NoneType_0, fun ne => absurd rfl ne⟩ ⟨n1bool_0, fun ne => n2bool_0⟩ ⟨n1int_0, fun ne => n2int_0⟩ ⟨n1str_0, fun ne => n2str_0⟩ ⟨n1list_0, fun ne => n2list_0⟩ ⟨n1tuple_0, fun ne => n2tuple_0⟩ ⟨n1dict_0, fun ne => n2dict_0⟩⟩ ⟨⟨pg_1, hd_1, po_1, sa_1⟩, iha_1, ihn, itk, ihm_1, k7 ⟨n1NoneType_1, fun ne => absurd rfl ne⟩ ⟨n1bool_1, fun ne => n2bool_1⟩ ⟨n1int_1, fun ne => n2int_1⟩ ⟨n1str_1, fun ne => n2str_1⟩ ⟨n1list_1, fun ne => n2list_1⟩ ⟨n1tuple_1, fun ne => n2tuple_1⟩ ⟨n1dict_1, fun ne => n2dict_1⟩⟩, in2 ⟨xga_3, xgg_3, xbe_3, xhd_3, iha_3, ihn, itk, ihm_3⟩ ⟨xga_4, xgg_4, xbe_4, xhd_4, iha_4, ihn, itk, ihm_4⟩, ⟨_, icl_0⟩, ity_0, k7 s1NoneType_0 s1bool_0 s1int_0 s1str_0 s1list_0 s1tuple_0 s1dict_0, in2 kk_0_0 kk_1_0, in2 kk_3_0 kk_4_0⟩
    is_1 := ⟨in2 ⟨⟨pg_0, hd_0, po_0, sa_0⟩, iha_0, ihn, itk, ihm_0, k7 ⟨n1NoneType_0, fun ne => absurd rfl ne⟩ ⟨n1bool_0, fun ne => n2bool_0⟩ ⟨n1int_0, fun ne => n2int_0⟩ ⟨n1str_0, fun ne => n2str_0⟩ ⟨n1list_0, fun ne => n2list_0⟩ ⟨n1tuple_0, fun ne => n2tuple_0⟩ ⟨n1dict_0, fun ne => n2dict_0⟩⟩ ⟨⟨pg_1, hd_1, po_1, sa_1⟩, iha_1, ihn, itk, ihm_1, k7 ⟨n1NoneType_1, fun ne => absurd rfl ne⟩ ⟨n1bool_1, fun ne => n2bool_1⟩ ⟨n1int_1, fun ne => n2int_1⟩ ⟨n1str_1, fun ne => n2str_1⟩ ⟨n1list_1, fun ne => n2list_1⟩ ⟨n1tuple_1, fun ne => n2tuple_1⟩ ⟨n1dict_1, fun ne => n2dict_1⟩⟩, in2 ⟨xga_3, xgg_3, xbe_3, xhd_3, iha_3, ihn, itk, ihm_3⟩ ⟨xga_4, xgg_4, xbe_4, xhd_4, iha_4, ihn, itk, ihm_4⟩, ⟨_, icl_1⟩, ity_1, k7 s1NoneType_1 s1bool_1 s1int_1 s1str_1 s1list_1 s1tuple_1 s1dict_1, in2 kk_0_1 kk_1_1, in2 kk_3_1 kk_4_1⟩
    is_4 := ⟨in2 ⟨⟨pg_0, hd_0, po_0, sa_0⟩, iha_0, ihn, itk, ihm_0, k7 ⟨n1NoneType_0, fun ne => absurd rfl ne⟩ ⟨n1bool_0, fun ne => n2bool_0⟩ ⟨n1int_0, fun ne => n2int_0⟩ ⟨n1str_0, fun ne => n2str_0⟩ ⟨n1list_0, fun ne => n2list_0⟩ ⟨n1tuple_0, fun ne => n2tuple_0⟩ ⟨n1dict_0, fun ne => n2dict_0⟩⟩ ⟨⟨pg_1, hd_1, po_1, sa_1⟩, iha_1, ihn, itk, ihm_1, k7 ⟨n1NoneType_1, fun ne => absurd rfl ne⟩ ⟨n1bool_1, fun ne => n2bool_1⟩ ⟨n1int_1, fun ne => n2int_1⟩ ⟨n1str_1, fun ne => n2str_1⟩ ⟨n1list_1, fun ne => n2list_1⟩ ⟨n1tuple_1, fun ne => n2tuple_1⟩ ⟨n1dict_1, fun ne => n2dict_1⟩⟩, in2 ⟨xga_3, xgg_3, xbe_3, xhd_3, iha_3, ihn, itk, ihm_3⟩ ⟨xga_4, xgg_4, xbe_4, xhd_4, iha_4, ihn, itk, ihm_4⟩, ⟨_, icl_4⟩, ity_4, k7 s1NoneType_4 s1bool_4 s1int_4 s1str_4 s1list_4 s1tuple_4 s1dict_4, in2 kk_0_4 kk_1_4, in2 kk_3_4 kk_4_4⟩
    isno := in2 (in2 (fun ne => absurd rfl ne) (fun _ => kk_0_1)) (in2 (fun _ => kk_1_0) (fun ne => absurd rfl ne))
    isok := in2 ⟨⟨pg_0, hd_0, po_0, sa_0⟩, iha_0, ihn, itk, ihm_0, k7 ⟨n1NoneType_0, fun ne => absurd rfl ne⟩ ⟨n1bool_0, fun ne => n2bool_0⟩ ⟨n1int_0, fun ne => n2int_0⟩ ⟨n1str_0, fun ne => n2str_0⟩ ⟨n1list_0, fun ne => n2list_0⟩ ⟨n1tuple_0, fun ne => n2tuple_0⟩ ⟨n1dict_0, fun ne => n2dict_0⟩⟩ ⟨⟨pg_1, hd_1, po_1, sa_1⟩, iha_1, ihn, itk, ihm_1, k7 ⟨n1NoneType_1, fun ne => absurd rfl ne⟩ ⟨n1bool_1, fun ne => n2bool_1⟩ ⟨n1int_1, fun ne => n2int_1⟩ ⟨n1str_1, fun ne => n2str_1⟩ ⟨n1list_1, fun ne => n2list_1⟩ ⟨n1tuple_1, fun ne => n2tuple_1⟩ ⟨n1dict_1, fun ne => n2dict_1⟩⟩
    k_0ISSUE := ⟨.type "type", .int 0, _, ⟨rd_0, ga_0⟩, ⟨yk_0ISSUE, ⟨_, rfl⟩⟩, fun _ _ => .int 0⟩
    na_0_events := yna_0_events
    na_0_heard := yna_0_heard
    na_0_links := yna_0_links
    na_0_opens := yna_0_opens
    na_1_turns := yna_1_turns
    na_1_wait := yna_1_wait
    x_ReissueError := PySem.W.mg_of X G aC_2
    xf := in2 ⟨xga_3, xgg_3, xbe_3, xhd_3⟩ ⟨xga_4, xgg_4, xbe_4, xhd_4⟩
    xn_value := in2 xnvalue_3 xnvalue_4 }
  refine ⟨PySem.W.fnOf "law" "law" (defArgs (topS 30)) (defBody (topS 30)) (defScope (topS 30)) .none kV_30 dc_30 pm_30 an_30 cd_30 ct_30, fun s v => .of_eq rfl, fun base _ _ => ?_⟩
  have O_x3 : OexC K C_3 := ⟨⟨_, _, _, _, _, _, _, _, _, _, _, _, _, _, _, xl_3, rfs⟩, xsa_3, xbe_3, ity_3, xkc_3⟩
  have F_x3 := funD_mk (st := clsS 2 0) (d := V.non) l_x3 c_x3 k_x3 dt_x3 rfl
  obtain ⟨d_x3, v_x3, b_x3⟩ := F_x3.binds1 (ps := ["self", "value"]) 2 1 (List.cons_ne_nil _ _) rfl fun _ _ _ _ _ _ _ us its hu hi => match us, its, hu, hi with | [_, _], [_], _, _ => ⟨_, rfl, rfl⟩
  cases vals_nil v_x3
  have DX_InvalidBehavior : XKl l.prog w ⟨K, (fun i => ([C_0, C_1, C_2, C_3, C_4] : List Addr).getD i 0)⟩ mg base "InvalidBehavior" 3 "value" := ⟨O_x3, ⟨_, _, _, a_x3, t_x3, fn_xinit (n := "value") F_x3 ⟨rfl, rfl, rfl, by decide +kernel, rfl, by decide +kernel, by decide +kernel⟩ rfl O_x3 xnvalue_3, b_x3⟩, PySem.W.mg_of X G aC_3⟩
  have O_x4 : OexC K C_4 := ⟨⟨_, _, _, _, _, _, _, _, _, _, _, _, _, _, _, xl_4, rfs⟩, xsa_4, xbe_4, ity_4, xkc_4⟩
  have F_x4 := funD_mk (st := clsS 3 0) (d := V.non) l_x4 c_x4 k_x4 dt_x4 rfl
  obtain ⟨d_x4, v_x4, b_x4⟩ := F_x4.binds1 (ps := ["self", "value"]) 2 1 (List.cons_ne_nil _ _) rfl fun _ _ _ _ _ _ _ us its hu hi => match us, its, hu, hi with | [_, _], [_], _, _ => ⟨_, rfl, rfl⟩
  cases vals_nil v_x4
  have DX_InvalidNumber : XKl l.prog w ⟨K, (fun i => ([C_0, C_1, C_2, C_3, C_4] : List Addr).getD i 0)⟩ mg base "InvalidNumber" 4 "value" := ⟨O_x4, ⟨_, _, _, a_x4, t_x4, fn_xinit (n := "value") F_x4 ⟨rfl, rfl, rfl, by decide +kernel, rfl, by decide +kernel, by decide +kernel⟩ rfl O_x4 xnvalue_4, b_x4⟩, PySem.W.mg_of X G aC_4⟩
  have F_0 := fun_mk (st := topS 5) l_0 c_0 k_0
  have b_0 := F_0.binds (ps := ["value"]) fun _ _ _ _ _ _ us hl => match us, hl with | [_], _ => rfl
  have Dis_whole : Def l.prog w ⟨K, (fun i => ([C_0, C_1, C_2, C_3, C_4] : List Addr).getD i 0)⟩ mg base "is_whole" 1 1 Fis_whole := ⟨⟨_, _, _, okis_whole (P := l.prog) (w := w) (base := base) F_0 T , PySem.W.mg_of X G a_0, k_0, b_0, rfl⟩⟩
  have F_1 := fun_mk (st := topS 6) l_1 c_1 k_1
  have b_1 := F_1.binds (ps := ["value", "low"]) fun _ _ _ _ _ _ us hl => match us, hl with | [_, _], _ => rfl
  have Dis_at_least : Def l.prog w ⟨K, (fun i => ([C_0, C_1, C_2, C_3, C_4] : List Addr).getD i 0)⟩ mg base "is_at_least" 2 2 Fis_at_least := ⟨⟨_, _, _, okis_at_least (P := l.prog) (w := w) (base := base) F_1 T Dis_whole, PySem.W.mg_of X G a_1, k_1, b_1, rfl⟩⟩
  have F_2 := fun_mk (st := topS 7) l_2 c_2 k_2
  have b_2 := F_2.binds (ps := ["value", "size"]) fun _ _ _ _ _ _ us hl => match us, hl with | [_, _], _ => rfl
  have Dis_index : Def l.prog w ⟨K, (fun i => ([C_0, C_1, C_2, C_3, C_4] : List Addr).getD i 0)⟩ mg base "is_index" 3 2 Fis_index := ⟨⟨_, _, _, okis_index (P := l.prog) (w := w) (base := base) F_2 T Dis_at_least, PySem.W.mg_of X G a_2, k_2, b_2, rfl⟩⟩
  have F_3 := fun_mk (st := topS 14) l_3 c_3 k_3
  have b_3 := F_3.binds (ps := ["value", "events"]) fun _ _ _ _ _ _ us hl => match us, hl with | [_, _], _ => rfl
  have D_is_port : Def l.prog w ⟨K, (fun i => ([C_0, C_1, C_2, C_3, C_4] : List Addr).getD i 0)⟩ mg base "_is_port" 4 2 F_is_port := ⟨⟨_, _, _, ok_is_port (P := l.prog) (w := w) (base := base) F_3 T Dis_index Dis_at_least, PySem.W.mg_of X G a_3, k_3, b_3, rfl⟩⟩
  have F_4 := fun_mk (st := topS 13) l_4 c_4 k_4
  have b_4 := F_4.binds (ps := ["value", "events"]) fun _ _ _ _ _ _ us hl => match us, hl with | [_, _], _ => rfl
  have D_are_ports : Def l.prog w ⟨K, (fun i => ([C_0, C_1, C_2, C_3, C_4] : List Addr).getD i 0)⟩ mg base "_are_ports" 5 2 F_are_ports := ⟨⟨_, _, _, ok_are_ports (P := l.prog) (w := w) (base := base) F_4 T D_is_port, PySem.W.mg_of X G a_4, k_4, b_4, rfl⟩⟩
  have F_5 := fun_mk (st := topS 12) l_5 c_5 k_5
  have b_5 := F_5.binds (ps := ["value", "events"]) fun _ _ _ _ _ _ us hl => match us, hl with | [_, _], _ => rfl
  have D_is_link : Def l.prog w ⟨K, (fun i => ([C_0, C_1, C_2, C_3, C_4] : List Addr).getD i 0)⟩ mg base "_is_link" 4 2 F_is_link := ⟨⟨_, _, _, ok_is_link (P := l.prog) (w := w) (base := base) F_5 T Dis_at_least Dis_index, PySem.W.mg_of X G a_5, k_5, b_5, rfl⟩⟩
  have F_6 := fun_mk (st := topS 11) l_6 c_6 k_6
  have b_6 := F_6.binds (ps := ["events", "links", "heard", "opens"]) fun _ _ _ _ _ _ us hl => match us, hl with | [_, _, _, _], _ => rfl
  have D_fit : Def l.prog w ⟨K, (fun i => ([C_0, C_1, C_2, C_3, C_4] : List Addr).getD i 0)⟩ mg base "_fit" 6 4 F_fit := ⟨⟨_, _, _, ok_fit (P := l.prog) (w := w) (base := base) F_6 T D_is_link D_are_ports Dis_at_least, PySem.W.mg_of X G a_6, k_6, b_6, rfl⟩⟩
  have F_7 := fun_mk (st := clsS 10 2) l_7 c_7 k_7
  have b_7 := F_7.binds (ps := ["self", "events", "links", "heard", "opens"]) fun _ _ _ _ _ _ us hl => match us, hl with | [_, _, _, _, _], _ => rfl
  have D_Behavior___init__ : Kls l.prog w ⟨K, (fun i => ([C_0, C_1, C_2, C_3, C_4] : List Addr).getD i 0)⟩ mg base "Behavior" 0 7 4 [] F_Behavior___init__ := ⟨⟨_, _, _, [], [], ⟨mk_0, a_7, i_7, kc_0⟩, ok_Behavior___init__ (P := l.prog) (w := w) (base := base) F_7 T D_fit DX_InvalidBehavior, PySem.W.mg_of X G aC_0, b_7, .nil, fun _ _ => .nil⟩⟩
  have F_8 := fun_mk (st := topS 8) l_8 c_8 k_8
  have b_8 := F_8.binds (ps := ["value", "low"]) fun _ _ _ _ _ _ us hl => match us, hl with | [_, _], _ => rfl
  have Dcheck_at_least : Def l.prog w ⟨K, (fun i => ([C_0, C_1, C_2, C_3, C_4] : List Addr).getD i 0)⟩ mg base "check_at_least" 3 2 Fcheck_at_least := ⟨⟨_, _, _, okcheck_at_least (P := l.prog) (w := w) (base := base) F_8 T Dis_at_least DX_InvalidNumber, PySem.W.mg_of X G a_8, k_8, b_8, rfl⟩⟩
  have F_9 := funD_mk (st := clsS 16 0) (d := V.int 1) l_9 c_9 k_9 dt_9 ⟨_, rfl⟩
  obtain ⟨d_9, v_9, b_9⟩ := F_9.binds1 (ps := ["self", "wait", "turns"]) 3 1 (List.cons_ne_nil _ _) rfl fun _ _ _ _ _ _ _ us its hu hi => match us, its, hu, hi with | [_, _, _], [_], _, _ => ⟨_, rfl, rfl⟩
  cases vals_nil v_9
  obtain ⟨e_9, w_9, g_9'⟩ := F_9.binds1 (ps := ["self", "wait", "turns"]) 2 0 (List.cons_ne_nil _ _) rfl fun _ _ _ _ _ _ _ us its hu hi => match us, its, hu, hi with | [_, _], [_], _, _ => ⟨_, rfl, rfl⟩
  have D_Rule___init__ : Kls l.prog w ⟨K, (fun i => ([C_0, C_1, C_2, C_3, C_4] : List Addr).getD i 0)⟩ mg base "Rule" 1 4 2 [] F_Rule___init__ := ⟨⟨_, _, _, [], [], ⟨mk_1, a_9, i_9, kc_1⟩, ok_Rule___init__ (P := l.prog) (w := w) (base := base) F_9 T Dcheck_at_least, PySem.W.mg_of X G aC_1, b_9, .nil, fun _ _ => .nil⟩⟩
  have D_Rule___init___1 : Kls l.prog w ⟨K, (fun i => ([C_0, C_1, C_2, C_3, C_4] : List Addr).getD i 0)⟩ mg base "Rule" 1 4 1 [.int 1] F_Rule___init__ := ⟨⟨_, _, _, _, _, ⟨mk_1, a_9, i_9, kc_1⟩, ok_Rule___init__ (P := l.prog) (w := w) (base := base) F_9 T Dcheck_at_least, PySem.W.mg_of X G aC_1, g_9', w_9, fun _ _ => .cons (.int 1) .nil⟩⟩
  have F_10 := fun_mk (st := clsS 10 7) l_10 c_10 k_10
  have b_10 := F_10.binds (ps := ["self", "other"]) fun _ _ _ _ _ _ us hl => match us, hl with | [_, _], _ => rfl
  have D_Behavior___eq__ : Mth l.prog w ⟨K, (fun i => ([C_0, C_1, C_2, C_3, C_4] : List Addr).getD i 0)⟩ mg base 0 "__eq__" 1 1 F_Behavior___eq__ := ⟨⟨_, _, _, ⟨a_10, i_10, k_10⟩, ok_Behavior___eq__ (P := l.prog) (w := w) (base := base) F_10 T , b_10⟩⟩
  have F_11 := fun_mk (st := clsS 16 3) l_11 c_11 k_11
  have b_11 := F_11.binds (ps := ["self", "other"]) fun _ _ _ _ _ _ us hl => match us, hl with | [_, _], _ => rfl
  have D_Rule___eq__ : Mth l.prog w ⟨K, (fun i => ([C_0, C_1, C_2, C_3, C_4] : List Addr).getD i 0)⟩ mg base 1 "__eq__" 1 1 F_Rule___eq__ := ⟨⟨_, _, _, ⟨a_11, i_11, k_11⟩, ok_Rule___eq__ (P := l.prog) (w := w) (base := base) F_11 T , b_11⟩⟩
  have F_12 := fun_mk (st := topS 23) l_12 c_12 k_12
  have b_12 := F_12.binds (ps := ["_law_value"]) fun _ _ _ _ _ _ us hl => match us, hl with | [_], _ => rfl
  have D_law_shown : Def l.prog w ⟨K, (fun i => ([C_0, C_1, C_2, C_3, C_4] : List Addr).getD i 0)⟩ mg base "_law_shown" 2 1 F_law_shown := ⟨⟨_, _, _, ok_law_shown (P := l.prog) (w := w) (base := base) F_12 T , PySem.W.mg_of X G a_12, k_12, b_12, rfl⟩⟩
  have F_13 := fun_mk (st := topS 28) l_13 c_13 k_13
  have b_13 := F_13.binds (ps := ["_law_way", "_law_first", "_law_second"]) fun _ _ _ _ _ _ us hl => match us, hl with | [_, _, _], _ => rfl
  have D_law_caught : Def l.prog w ⟨K, (fun i => ([C_0, C_1, C_2, C_3, C_4] : List Addr).getD i 0)⟩ mg base "_law_caught" 6 3 F_law_caught := ⟨⟨_, _, _, ok_law_caught (P := l.prog) (w := w) (base := base) F_13 T D_law_shown D_Behavior___eq__ D_Rule___eq__ D_Rule___init__ D_Rule___init___1, PySem.W.mg_of X G a_13, k_13, b_13, rfl⟩⟩
  have F_14 := fun_mk (st := topS 29) l_14 c_14 k_14
  have b_14 := F_14.binds (ps := []) fun _ _ _ _ _ _ us hl => match us, hl with | [], _ => rfl
  have D_law_refused : Def l.prog w ⟨K, (fun i => ([C_0, C_1, C_2, C_3, C_4] : List Addr).getD i 0)⟩ mg base "_law_refused" 9 0 F_law_refused := ⟨⟨_, _, _, ok_law_refused (P := l.prog) (w := w) (base := base) F_14 T D_law_caught D_Behavior___eq__ D_Rule___eq__ D_Rule___init___1 D_Behavior___init__ D_law_shown, PySem.W.mg_of X G a_14, k_14, b_14, rfl⟩⟩
  have F_15 := fun_mk (st := topS 21) l_15 c_15 k_15
  have b_15 := F_15.binds (ps := ["_law_script", "_law_at"]) fun _ _ _ _ _ _ us hl => match us, hl with | [_, _], _ => rfl
  have D_law_purse : Def l.prog w ⟨K, (fun i => ([C_0, C_1, C_2, C_3, C_4] : List Addr).getD i 0)⟩ mg base "_law_purse" 1 2 F_law_purse := ⟨⟨_, _, _, ok_law_purse (P := l.prog) (w := w) (base := base) F_15 T , PySem.W.mg_of X G a_15, k_15, b_15, rfl⟩⟩
  have F_16 := fun_mk (st := clsS 16 2) l_16 c_16 k_16
  have b_16 := F_16.binds (ps := ["self"]) fun _ _ _ _ _ _ us hl => match us, hl with | [_], _ => rfl
  have D_Rule_turns : Prp l.prog w ⟨K, (fun i => ([C_0, C_1, C_2, C_3, C_4] : List Addr).getD i 0)⟩ mg base 1 "turns" 1 F_Rule_turns := ⟨⟨_, _, _, _, ⟨a_16, g_16, t_16, _, r_16⟩, ok_Rule_turns (P := l.prog) (w := w) (base := base) F_16 T , b_16⟩⟩
  have F_17 := fun_mk (st := clsS 16 1) l_17 c_17 k_17
  have b_17 := F_17.binds (ps := ["self"]) fun _ _ _ _ _ _ us hl => match us, hl with | [_], _ => rfl
  have D_Rule_wait : Prp l.prog w ⟨K, (fun i => ([C_0, C_1, C_2, C_3, C_4] : List Addr).getD i 0)⟩ mg base 1 "wait" 1 F_Rule_wait := ⟨⟨_, _, _, _, ⟨a_17, g_17, t_17, _, r_17⟩, ok_Rule_wait (P := l.prog) (w := w) (base := base) F_17 T , b_17⟩⟩
  have F_18 := fun_mk (st := topS 18) l_18 c_18 k_18
  have b_18 := F_18.binds (ps := ["rule"]) fun _ _ _ _ _ _ us hl => match us, hl with | [_], _ => rfl
  have D_product : Def l.prog w ⟨K, (fun i => ([C_0, C_1, C_2, C_3, C_4] : List Addr).getD i 0)⟩ mg base "_product" 3 1 F_product := ⟨⟨_, _, _, ok_product (P := l.prog) (w := w) (base := base) F_18 T D_Rule_turns D_Rule_wait, PySem.W.mg_of X G a_18, k_18, b_18, rfl⟩⟩
  have F_19 := fun_mk (st := topS 17) l_19 c_19 k_19
  have b_19 := F_19.binds (ps := ["one", "other"]) fun _ _ _ _ _ _ us hl => match us, hl with | [_, _], _ => rfl
  have D_is_at_most : Def l.prog w ⟨K, (fun i => ([C_0, C_1, C_2, C_3, C_4] : List Addr).getD i 0)⟩ mg base "_is_at_most" 4 2 F_is_at_most := ⟨⟨_, _, _, ok_is_at_most (P := l.prog) (w := w) (base := base) F_19 T D_Rule_turns D_product, PySem.W.mg_of X G a_19, k_19, b_19, rfl⟩⟩
  have F_20 := fun_mk (st := clsS 16 7) l_20 c_20 k_20
  have b_20 := F_20.binds (ps := ["self", "other"]) fun _ _ _ _ _ _ us hl => match us, hl with | [_, _], _ => rfl
  have D_Rule___gt__ : Mth l.prog w ⟨K, (fun i => ([C_0, C_1, C_2, C_3, C_4] : List Addr).getD i 0)⟩ mg base 1 "__gt__" 5 1 F_Rule___gt__ := ⟨⟨_, _, _, ⟨a_20, i_20, k_20⟩, ok_Rule___gt__ (P := l.prog) (w := w) (base := base) F_20 T D_is_at_most, b_20⟩⟩
  have F_21 := fun_mk (st := topS 20) l_21 c_21 k_21
  have b_21 := F_21.binds (ps := ["_law_cell", "_law_k"]) fun _ _ _ _ _ _ us hl => match us, hl with | [_, _], _ => rfl
  have D_law_mixed : Def l.prog w ⟨K, (fun i => ([C_0, C_1, C_2, C_3, C_4] : List Addr).getD i 0)⟩ mg base "_law_mixed" 1 2 F_law_mixed := ⟨⟨_, _, _, ok_law_mixed (P := l.prog) (w := w) (base := base) F_21 T , PySem.W.mg_of X G a_21, k_21, b_21, rfl⟩⟩
  have F_22 := fun_mk (st := topS 22) l_22 c_22 k_22
  have b_22 := F_22.binds (ps := ["_law_purse_here", "_law_out_of"]) fun _ _ _ _ _ _ us hl => match us, hl with | [_, _], _ => rfl
  have D_law_draw : Def l.prog w ⟨K, (fun i => ([C_0, C_1, C_2, C_3, C_4] : List Addr).getD i 0)⟩ mg base "_law_draw" 7 2 F_law_draw := ⟨⟨_, _, _, ok_law_draw (P := l.prog) (w := w) (base := base) F_22 T D_law_mixed D_Rule___gt__, PySem.W.mg_of X G a_22, k_22, b_22, rfl⟩⟩
  have F_23 := fun_mk (st := topS 24) l_23 c_23 k_23
  have b_23 := F_23.binds (ps := ["_law_purse_here"]) fun _ _ _ _ _ _ us hl => match us, hl with | [_], _ => rfl
  have D_law_numbers : Def l.prog w ⟨K, (fun i => ([C_0, C_1, C_2, C_3, C_4] : List Addr).getD i 0)⟩ mg base "_law_numbers" 8 1 F_law_numbers := ⟨⟨_, _, _, ok_law_numbers (P := l.prog) (w := w) (base := base) F_23 T D_law_draw, PySem.W.mg_of X G a_23, k_23, b_23, rfl⟩⟩
  have F_24 := fun_mk (st := topS 25) l_24 c_24 k_24
  have b_24 := F_24.binds (ps := ["_law_parts"]) fun _ _ _ _ _ _ us hl => match us, hl with | [_], _ => rfl
  have D_law_rule : Def l.prog w ⟨K, (fun i => ([C_0, C_1, C_2, C_3, C_4] : List Addr).getD i 0)⟩ mg base "_law_rule" 6 1 F_law_rule := ⟨⟨_, _, _, ok_law_rule (P := l.prog) (w := w) (base := base) F_24 T D_Rule___init__, PySem.W.mg_of X G a_24, k_24, b_24, rfl⟩⟩
  have F_25 := fun_mk (st := topS 27) l_25 c_25 k_25
  have b_25 := F_25.binds (ps := ["_law_rule_here", "_law_parts"]) fun _ _ _ _ _ _ us hl => match us, hl with | [_, _], _ => rfl
  have D_law_alone : Def l.prog w ⟨K, (fun i => ([C_0, C_1, C_2, C_3, C_4] : List Addr).getD i 0)⟩ mg base "_law_alone" 9 2 F_law_alone := ⟨⟨_, _, _, ok_law_alone (P := l.prog) (w := w) (base := base) F_25 T D_Rule_turns D_Rule_wait D_Behavior___eq__ D_Rule___eq__ D_Behavior___init__, PySem.W.mg_of X G a_25, k_25, b_25, rfl⟩⟩
  have F_26 := fun_mk (st := clsS 16 4) l_26 c_26 k_26
  have b_26 := F_26.binds (ps := ["self", "other"]) fun _ _ _ _ _ _ us hl => match us, hl with | [_, _], _ => rfl
  have D_Rule___le__ : Mth l.prog w ⟨K, (fun i => ([C_0, C_1, C_2, C_3, C_4] : List Addr).getD i 0)⟩ mg base 1 "__le__" 5 1 F_Rule___le__ := ⟨⟨_, _, _, ⟨a_26, i_26, k_26⟩, ok_Rule___le__ (P := l.prog) (w := w) (base := base) F_26 T D_is_at_most, b_26⟩⟩
  have F_27 := fun_mk (st := clsS 16 6) l_27 c_27 k_27
  have b_27 := F_27.binds (ps := ["self", "other"]) fun _ _ _ _ _ _ us hl => match us, hl with | [_, _], _ => rfl
  have D_Rule___ge__ : Mth l.prog w ⟨K, (fun i => ([C_0, C_1, C_2, C_3, C_4] : List Addr).getD i 0)⟩ mg base 1 "__ge__" 5 1 F_Rule___ge__ := ⟨⟨_, _, _, ⟨a_27, i_27, k_27⟩, ok_Rule___ge__ (P := l.prog) (w := w) (base := base) F_27 T D_is_at_most, b_27⟩⟩
  have F_28 := fun_mk (st := clsS 16 5) l_28 c_28 k_28
  have b_28 := F_28.binds (ps := ["self", "other"]) fun _ _ _ _ _ _ us hl => match us, hl with | [_, _], _ => rfl
  have D_Rule___lt__ : Mth l.prog w ⟨K, (fun i => ([C_0, C_1, C_2, C_3, C_4] : List Addr).getD i 0)⟩ mg base 1 "__lt__" 5 1 F_Rule___lt__ := ⟨⟨_, _, _, ⟨a_28, i_28, k_28⟩, ok_Rule___lt__ (P := l.prog) (w := w) (base := base) F_28 T D_is_at_most, b_28⟩⟩
  have F_29 := fun_mk (st := topS 26) l_29 c_29 k_29
  have b_29 := F_29.binds (ps := ["_law_one", "_law_other"]) fun _ _ _ _ _ _ us hl => match us, hl with | [_, _], _ => rfl
  have D_law_right : Def l.prog w ⟨K, (fun i => ([C_0, C_1, C_2, C_3, C_4] : List Addr).getD i 0)⟩ mg base "_law_right" 7 2 F_law_right := ⟨⟨_, _, _, ok_law_right (P := l.prog) (w := w) (base := base) F_29 T D_Behavior___eq__ D_Rule___eq__ D_Rule___le__ D_Rule___ge__ D_Rule___gt__ D_Rule___lt__ D_Rule_turns D_Rule_wait D_law_rule, PySem.W.mg_of X G a_29, k_29, b_29, rfl⟩⟩
  have F_30 := fun_mk (st := topS 30) l_30 c_30 k_30
  exact FnG.imp (oklaw (P := l.prog) (w := w) (base := base) F_30 T D_law_refused D_law_right D_Behavior___eq__ D_Rule___eq__ D_Rule_turns D_Rule_wait D_Rule___init___1 D_law_alone D_law_rule D_law_numbers D_law_purse) fun vs H Q E q => spf_law hl q
theorem walkL {l : PySem.W.OpenLaw} {q : Program} {loose : List Str} {XP : (Str → Option Value) → Heap → Prop} {YP : World → Heap → Prop} {d : DefRec} {K : Params → PySem.W.Frag} (hn : l.most = some 63) (hdf : d.params.defaults = [])
    (hY : ∀ (w : World) (h : Heap), YP w h → (K w.params).In h)
    (F : ∀ (w : World) (mg : Str → Option Value) (fa : Addr) (h : Heap), (K w.params).In h → h.Ns mainGlobals mg → mg d.name = some (.ref fa) →
      ∃ fd : FuncData, (∀ (s : Shared) (u : Value), BindsTo s fd ⟨[u], []⟩ [("_law_script", u)]) ∧ ∀ base : Heap, (K w.params).In base → base.Ns mainGlobals mg → FnG l.prog w (K w.params) mg base 10 fa fd ["_law_script"] (spLaw (K w.params))) :
    PySem.W.WalkO q loose XP YP l.row.toRowW d [] (fun f vs => PySem.call f vs) :=
  walkG (n := 63) (k := 10) (x := "_law_script") (sp := fun w => spLaw (K w.params)) hn (by decide) hdf ⟨rfl, by decide, by decide⟩ hY F (fun _ _ a ns hl _ hS => ⟨a, ns, rfl, hS, hl, fun _ => rfl⟩)
end PV

set_option Elab.async false
set_option linter.all false
open PySem PySem.W PyProof.Rows
set_option maxRecDepth 100000 in
set_option maxHeartbeats 0 in
theorem PySem.Challenge.cw_reissue_k30_rules_made_and_compared_holds : PySem.Challenge.rw_reissue_k30_rules_made_and_compared.Holds := by
  w_on; o_law; k_head; (case hw => w_witness2)
  k_fill
  refine PV.walkL (l := PySem.Challenge.rw_reissue_k30_rules_made_and_compared) rfl rfl (fun w h Y => PySem.W.kIn_of Y) ?F
  case F =>
    intro w mg fa h KX G hmg
    refine' PV.all_mk PV.hlaw KX G hmg ?aC_0 ?pg_0 ?hd_0 ?po_0 ?sa_0 ?mk_0 ?kc_0 ?aC_1 ?pg_1 ?hd_1 ?po_1 ?sa_1 ?mk_1 ?kc_1 ?aC_2 ?aC_3 ?aC_4 ?a_0 ?l_0 ?c_0 ?k_0 ?a_1 ?l_1 ?c_1 ?k_1 ?a_2 ?l_2 ?c_2 ?k_2 ?a_3 ?l_3 ?c_3 ?k_3 ?a_4 ?l_4 ?c_4 ?k_4 ?a_5 ?l_5 ?c_5 ?k_5 ?a_6 ?l_6 ?c_6 ?k_6 ?a_7 ?i_7 ?l_7 ?c_7 ?k_7 ?a_8 ?l_8 ?c_8 ?k_8 ?a_9 ?i_9 ?l_9 ?dt_9 ?c_9 ?k_9 ?a_10 ?i_10 ?l_10 ?c_10 ?k_10 ?a_11 ?i_11 ?l_11 ?c_11 ?k_11 ?a_12 ?l_12 ?c_12 ?k_12 ?a_13 ?l_13 ?c_13 ?k_13 ?a_14 ?l_14 ?c_14 ?k_14 ?a_15 ?l_15 ?c_15 ?k_15 ?a_16 ?g_16 ?t_16 ?r_16 ?l_16 ?c_16 ?k_16 ?a_17 ?g_17 ?t_17 ?r_17 ?l_17 ?c_17 ?k_17 ?a_18 ?l_18 ?c_18 ?k_18 ?a_19 ?l_19 ?c_19 ?k_19 ?a_20 ?i_20 ?l_20 ?c_20 ?k_20 ?a_21 ?l_21 ?c_21 ?k_21 ?a_22 ?l_22 ?c_22 ?k_22 ?a_23 ?l_23 ?c_23 ?k_23 ?a_24 ?l_24 ?c_24 ?k_24 ?a_25 ?l_25 ?c_25 ?k_25 ?a_26 ?i_26 ?l_26 ?c_26 ?k_26 ?a_27 ?i_27 ?l_27 ?c_27 ?k_27 ?a_28 ?i_28 ?l_28 ?c_28 ?k_28 ?a_29 ?l_29 ?c_29 ?k_29 ?a_30 ?l_30 ?c_30 ?k_30 ?z_all ?z_bool ?z_int ?z_isinstance ?z_len ?z_list ?z_max ?z_range ?z_repr ?z_set ?z_sorted ?z_str ?z_sum ?z_tuple ?iha_0 ?ihm_0 ?f1NoneType_0 ?f1bool_0 ?f1int_0 ?f1str_0 ?f1list_0 ?f1tuple_0 ?f1dict_0 ?f2_0_0 ?f2_0_1 ?f3NoneType_0 ?f3bool_0 ?f3int_0 ?f3str_0 ?f3list_0 ?f3tuple_0 ?f3dict_0 ?f4_0 ?iha_1 ?ihm_1 ?f1NoneType_1 ?f1bool_1 ?f1int_1 ?f1str_1 ?f1list_1 ?f1tuple_1 ?f1dict_1 ?f2_1_0 ?f2_1_1 ?f3NoneType_1 ?f3bool_1 ?f3int_1 ?f3str_1 ?f3list_1 ?f3tuple_1 ?f3dict_1 ?f4_1 ?em_3_2 ?em_4_2 ?icl_0 ?ity_0 ?s1NoneType_0 ?s1bool_0 ?s1int_0 ?s1str_0 ?s1list_0 ?s1tuple_0 ?s1dict_0 ?ihn ?itk ?n1NoneType_0 ?n1bool_0 ?n2bool_0 ?n1int_0 ?n2int_0 ?n1str_0 ?n2str_0 ?n1list_0 ?n2list_0 ?n1tuple_0 ?n2tuple_0 ?n1dict_0 ?n2dict_0 ?n1NoneType_1 ?n1bool_1 ?n2bool_1 ?n1int_1 ?n2int_1 ?n1str_1 ?n2str_1 ?n1list_1 ?n2list_1 ?n1tuple_1 ?n2tuple_1 ?n1dict_1 ?n2dict_1 ?iha_3 ?ihm_3 ?xga_3 ?xgg_3 ?xbe_3 ?xhd_3 ?iha_4 ?ihm_4 ?xga_4 ?xgg_4 ?xbe_4 ?xhd_4 ?kk_0_0 ?kk_1_0 ?kk_3_0 ?kk_4_0 ?icl_1 ?ity_1 ?s1NoneType_1 ?s1bool_1 ?s1int_1 ?s1str_1 ?s1list_1 ?s1tuple_1 ?s1dict_1 ?kk_0_1 ?kk_1_1 ?kk_3_1 ?kk_4_1 ?icl_4 ?ity_4 ?s1NoneType_4 ?s1bool_4 ?s1int_4 ?s1str_4 ?s1list_4 ?s1tuple_4 ?s1dict_4 ?kk_0_4 ?kk_1_4 ?kk_3_4 ?kk_4_4 ?rd_0 ?ga_0 ?yk_0ISSUE ?yna_0_events ?yna_0_heard ?yna_0_links ?yna_0_opens ?yna_1_turns ?yna_1_wait ?xnvalue_3 ?xnvalue_4 ?icl_3 ?ity_3 ?xl_3 ?xsa_3 ?xkc_3 ?a_x3 ?t_x3 ?l_x3 ?dt_x3 ?c_x3 ?k_x3 ?xl_4 ?xsa_4 ?xkc_4 ?a_x4 ?t_x4 ?l_x4 ?dt_x4 ?c_x4 ?k_x4
    (case aC_0 => k_is); (case pg_0 => k_is); (case hd_0 => k_is); (case po_0 => k_is); (case sa_0 => k_is); (case mk_0 => k_is)
    (case kc_0 => k_is); (case aC_1 => k_is); (case pg_1 => k_is); (case hd_1 => k_is); (case po_1 => k_is); (case sa_1 => k_is)
    (case mk_1 => k_is); (case kc_1 => k_is); (case aC_2 => k_is); (case aC_3 => k_is); (case aC_4 => k_is); (case a_0 => k_is)
    (case l_0 => k_is); (case c_0 => k_is); (case k_0 => k_is); (case a_1 => k_is); (case l_1 => k_is); (case c_1 => k_is)
    (case k_1 => k_is); (case a_2 => k_is); (case l_2 => k_is); (case c_2 => k_is); (case k_2 => k_is); (case a_3 => k_is)
    (case l_3 => k_is); (case c_3 => k_is); (case k_3 => k_is); (case a_4 => k_is); (case l_4 => k_is); (case c_4 => k_is)
    (case k_4 => k_is); (case a_5 => k_is); (case l_5 => k_is); (case c_5 => k_is); (case k_5 => k_is); (case a_6 => k_is)
    (case l_6 => k_is); (case c_6 => k_is); (case k_6 => k_is); (case a_7 => k_is); (case i_7 => k_is); (case l_7 => k_is)
    (case c_7 => k_is); (case k_7 => k_is); (case a_8 => k_is); (case l_8 => k_is); (case c_8 => k_is); (case k_8 => k_is)
    (case a_9 => k_is); (case i_9 => k_is); (case l_9 => k_is); (case dt_9 => k_is); (case c_9 => k_is); (case k_9 => k_is)
    (case a_10 => k_is); (case i_10 => k_is); (case l_10 => k_is); (case c_10 => k_is); (case k_10 => k_is); (case a_11 => k_is)
    (case i_11 => k_is); (case l_11 => k_is); (case c_11 => k_is); (case k_11 => k_is); (case a_12 => k_is); (case l_12 => k_is)
    (case c_12 => k_is); (case k_12 => k_is); (case a_13 => k_is); (case l_13 => k_is); (case c_13 => k_is); (case k_13 => k_is)
    (case a_14 => k_is); (case l_14 => k_is); (case c_14 => k_is); (case k_14 => k_is); (case a_15 => k_is); (case l_15 => k_is)
    (case c_15 => k_is); (case k_15 => k_is); (case a_16 => k_is); (case g_16 => k_is); (case t_16 => k_is); (case r_16 => k_is)
    (case l_16 => k_is); (case c_16 => k_is); (case k_16 => k_is); (case a_17 => k_is); (case g_17 => k_is); (case t_17 => k_is)
    (case r_17 => k_is); (case l_17 => k_is); (case c_17 => k_is); (case k_17 => k_is); (case a_18 => k_is); (case l_18 => k_is)
    (case c_18 => k_is); (case k_18 => k_is); (case a_19 => k_is); (case l_19 => k_is); (case c_19 => k_is); (case k_19 => k_is)
    (case a_20 => k_is); (case i_20 => k_is); (case l_20 => k_is); (case c_20 => k_is); (case k_20 => k_is); (case a_21 => k_is)
    (case l_21 => k_is); (case c_21 => k_is); (case k_21 => k_is); (case a_22 => k_is); (case l_22 => k_is); (case c_22 => k_is)
    (case k_22 => k_is); (case a_23 => k_is); (case l_23 => k_is); (case c_23 => k_is); (case k_23 => k_is); (case a_24 => k_is)
    (case l_24 => k_is); (case c_24 => k_is); (case k_24 => k_is); (case a_25 => k_is); (case l_25 => k_is); (case c_25 => k_is)
    (case k_25 => k_is); (case a_26 => k_is); (case i_26 => k_is); (case l_26 => k_is); (case c_26 => k_is); (case k_26 => k_is)
    (case a_27 => k_is); (case i_27 => k_is); (case l_27 => k_is); (case c_27 => k_is); (case k_27 => k_is); (case a_28 => k_is)
    (case i_28 => k_is); (case l_28 => k_is); (case c_28 => k_is); (case k_28 => k_is); (case a_29 => k_is); (case l_29 => k_is)
    (case c_29 => k_is); (case k_29 => k_is); (case a_30 => k_is); (case l_30 => k_is); (case c_30 => k_is); (case k_30 => k_is)
    (case z_all => k_is); (case z_bool => k_is); (case z_int => k_is); (case z_isinstance => k_is); (case z_len => k_is); (case z_list => k_is)
    (case z_max => k_is); (case z_range => k_is); (case z_repr => k_is); (case z_set => k_is); (case z_sorted => k_is); (case z_str => k_is)
    (case z_sum => k_is); (case z_tuple => k_is); (case iha_0 => k_is); (case ihm_0 => k_is); (case f1NoneType_0 => k_is); (case f1bool_0 => k_is)
    (case f1int_0 => k_is); (case f1str_0 => k_is); (case f1list_0 => k_is); (case f1tuple_0 => k_is); (case f1dict_0 => k_is); (case f2_0_0 => k_is)
    (case f2_0_1 => k_is); (case f3NoneType_0 => k_is); (case f3bool_0 => k_is); (case f3int_0 => k_is); (case f3str_0 => k_is); (case f3list_0 => k_is)
    (case f3tuple_0 => k_is); (case f3dict_0 => k_is); (case f4_0 => k_is); (case iha_1 => k_is); (case ihm_1 => k_is); (case f1NoneType_1 => k_is)
    (case f1bool_1 => k_is); (case f1int_1 => k_is); (case f1str_1 => k_is); (case f1list_1 => k_is); (case f1tuple_1 => k_is); (case f1dict_1 => k_is)
    (case f2_1_0 => k_is); (case f2_1_1 => k_is); (case f3NoneType_1 => k_is); (case f3bool_1 => k_is); (case f3int_1 => k_is); (case f3str_1 => k_is)
    (case f3list_1 => k_is); (case f3tuple_1 => k_is); (case f3dict_1 => k_is); (case f4_1 => k_is); (case em_3_2 => kts_exm); (case em_4_2 => kts_exm)
    (case icl_0 => k_is); (case ity_0 => k_is); (case s1NoneType_0 => k_is); (case s1bool_0 => k_is); (case s1int_0 => k_is); (case s1str_0 => k_is)
    (case s1list_0 => k_is); (case s1tuple_0 => k_is); (case s1dict_0 => k_is); (case ihn => k_is); (case itk => k_is); (case n1NoneType_0 => kit_is)
    (case n1bool_0 => kit_is); (case n2bool_0 => kit_is); (case n1int_0 => kit_is); (case n2int_0 => kit_is); (case n1str_0 => kit_is); (case n2str_0 => kit_is)
    (case n1list_0 => kit_is); (case n2list_0 => kit_is); (case n1tuple_0 => kit_is); (case n2tuple_0 => kit_is); (case n1dict_0 => kit_is); (case n2dict_0 => kit_is)
    (case n1NoneType_1 => kit_is); (case n1bool_1 => kit_is); (case n2bool_1 => kit_is); (case n1int_1 => kit_is); (case n2int_1 => kit_is); (case n1str_1 => kit_is)
    (case n2str_1 => kit_is); (case n1list_1 => kit_is); (case n2list_1 => kit_is); (case n1tuple_1 => kit_is); (case n2tuple_1 => kit_is); (case n1dict_1 => kit_is)
    (case n2dict_1 => kit_is); (case iha_3 => k_is); (case ihm_3 => k_is); (case xga_3 => k_is); (case xgg_3 => k_is); (case xbe_3 => k_is)
    (case xhd_3 => k_is); (case iha_4 => k_is); (case ihm_4 => k_is); (case xga_4 => k_is); (case xgg_4 => k_is); (case xbe_4 => k_is)
    (case xhd_4 => k_is); (case kk_0_0 => kit_is); (case kk_1_0 => kit_is); (case kk_3_0 => kit_is); (case kk_4_0 => kit_is); (case icl_1 => k_is)
    (case ity_1 => k_is); (case s1NoneType_1 => k_is); (case s1bool_1 => k_is); (case s1int_1 => k_is); (case s1str_1 => k_is); (case s1list_1 => k_is)
    (case s1tuple_1 => k_is); (case s1dict_1 => k_is); (case kk_0_1 => kit_is); (case kk_1_1 => kit_is); (case kk_3_1 => kit_is); (case kk_4_1 => kit_is)
    (case icl_4 => k_is); (case ity_4 => k_is); (case s1NoneType_4 => k_is); (case s1bool_4 => k_is); (case s1int_4 => k_is); (case s1str_4 => k_is)
    (case s1list_4 => k_is); (case s1tuple_4 => k_is); (case s1dict_4 => k_is); (case kk_0_4 => kit_is); (case kk_1_4 => kit_is); (case kk_3_4 => kit_is)
    (case kk_4_4 => kit_is); (case rd_0 => k_is); (case ga_0 => k_is); (case yk_0ISSUE => k_is); (case yna_0_events => k_is); (case yna_0_heard => k_is)
    (case yna_0_links => k_is); (case yna_0_opens => k_is); (case yna_1_turns => k_is); (case yna_1_wait => k_is); (case xnvalue_3 => k_is); (case xnvalue_4 => k_is)
    (case icl_3 => k_is); (case ity_3 => k_is); (case xl_3 => k_is); (case xsa_3 => k_is); (case xkc_3 => k_is); (case a_x3 => k_is)
    (case t_x3 => k_is); (case l_x3 => k_is); (case dt_x3 => k_is); (case c_x3 => k_is); (case k_x3 => k_is); (case xl_4 => k_is)
    (case xsa_4 => k_is); (case xkc_4 => k_is); (case a_x4 => k_is); (case t_x4 => k_is); (case l_x4 => k_is); (case dt_x4 => k_is)
    (case c_x4 => k_is); (case k_x4 => k_is)

