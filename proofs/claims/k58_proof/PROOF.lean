import PyProof.Rows.All
import Wide.All
import OpenK.AllK
import Wide.FinOn
import KE.KStateDown
import KE.DataMinMax
import KE.DatumOrd
import HandS.SortKw
import HandS.ForMost
import HandS.Property
import HandS.MakeKw
import HandS.FStr
import HandS.Star
import HandS.OwnEq
import HandS.IsInst
import HandS.Codes
import HandS.More
import HandS.Flow
import HandS.RaiseMore
import HandS.Defaults
import HandS.Style
import HandS.Conv
import HandS.Small
import HandS.Zip
import HandS.Wide
import HandS.Exc
import HandS.WordsExc
import HandS.Head0
import HandS.Head1
import HandS.Head2
import HandS.HeadEnd
import HandS.HeadHook1
import HandS.HeadHook2
import HandS.ClsMeth
import PySem.Challenge.RW_splitplans_k58_states_and_their_texts
import KE.KCallOwn
import HandS.MakeKwOnly
import KE.GoesZip
import KE.GoesMore
import HandS.Zip0
import HandS.GenList
import HandS.GenYield
set_option Elab.async false
set_option linter.all false
set_option maxRecDepth 100000
set_option maxHeartbeats 0
/-! ## the head: a Hook that tells every def by its own place in the written part -/
namespace Hd
open PySem PySem.Spec PyProof.Rows L2
abbrev Dn : Type := (PySem.W.Frag → Addr) × He.DefD
def inRec (kind : String) (c m : Str) (K : PySem.W.Frag) : Addr := match PySem.W.recIn K (He.ma K (He.ga K c) m) kind with
  | some (.ref g :: _) => g
  | _ => 0
def dG (x : Str) (st : Stmt) (dfl : List He.Dv) (kw : List (Str × He.Dv)) : Dn := (fun K => He.ga K x, ⟨(x, none), x, x, defArgs st, defBody st, defScope st, dfl, kw⟩)
def dM (c m q : Str) (st : Stmt) (dfl : List He.Dv) (kw : List (Str × He.Dv)) : Dn := (fun K => He.ma K (He.ga K c) m, ⟨(c, some m), m, q, defArgs st, defBody st, defScope st, dfl, kw⟩)
def dR (kind : String) (c m q : Str) (st : Stmt) (dfl : List He.Dv) (kw : List (Str × He.Dv)) : Dn := (fun K => inRec kind c m K, ⟨(c, some m), m, q, defArgs st, defBody st, defScope st, dfl, kw⟩)
/-- the parts of the function object at an address that a def's text fixes -/
def shown (K : PySem.W.Frag) (a : Addr) : He.FnW := (K.lookup a).bind fun o => match o.data with
  | .func f => some (f.name, f.qualname, f.params, f.body, f.scope, f.globals, f.closure, f.builtins)
  | _ => none
def sound (K : PySem.W.Frag) (d : Dn) : Bool := PySem.W.keepIn K (.ref (d.1 K)) && (((K.lookup (d.1 K)).bind fun o => match o.data with
  | .func f => some (PySem.W.codeIn K f.code d.2.qual && (He.dflB K f.defaults (d.2.dvs K) && He.kwdB K f.kwdefaults (d.2.kws K)))
  | _ => none).getD false)
theorem sound_fun {K : PySem.W.Frag} {d : Dn} (e : shown K (d.1 K) = d.2.val) (c : sound K d = true) :
    ∃ fd, FunD K d.2.name d.2.qual d.2.params d.2.body d.2.scope (d.2.dvs K) (d.2.kws K) (d.1 K) fd := by
  obtain ⟨keep, c2⟩ := Bool.and_eq_true_iff.mp c
  unfold shown at e
  rcases look : K.lookup (d.1 K) with _ | ⟨oc, od, dt, osl⟩
  · rw [look] at e
    cases e
  · rw [look] at e c2
    rcases dt with _ | _ | _ | _ | _ | _ | _ | _ | _ | _ | _ | _ | _
    all_goals first
      | (cases e; done)
      | skip
    all_goals
      rename_i fd
      obtain ⟨m1, m2, m3, m4, m5, m6, m7, m8, m9, m10, m11, m12, m13, m14, m15⟩ := fd
      have e' : (some (m1, m2, m3, m4, m5, m6, m7, m15) : He.FnW) = some (d.2.name, d.2.qual, d.2.params, .stmts d.2.body, d.2.scope, mainGlobals, [], builtinsNs) := e
      simp only [Option.some.injEq, Prod.mk.injEq] at e'
      obtain ⟨rfl, rfl, rfl, rfl, rfl, rfl, rfl, rfl⟩ := e'
      have c3 : (PySem.W.codeIn K m13 d.2.qual && (He.dflB K m8 (d.2.dvs K) && He.kwdB K m9 (d.2.kws K))) = true := c2
      obtain ⟨c4, c5⟩ := Bool.and_eq_true_iff.mp c3
      obtain ⟨c6, c7⟩ := Bool.and_eq_true_iff.mp c5
      exact ⟨_, ⟨oc, od, m8, m9, m10, m11, m12, m13, m14, osl, rfl, look, c4, He.dflB_ok c6, He.kwdB_ok c7⟩, keep⟩
/-! more facts, each a Bool over the written part -/
def propB (c f : Str) (K : PySem.W.Frag) : Bool :=
  He.eqO (PySem.W.findIn K (.ref (He.ga K c)) f) (some (some (.ref (He.ma K (He.ga K c) f)))) && (decide (PySem.W.specialIn K (.ref (He.ma K (He.ga K c) f)) "__get__" = some (some (.builtin "property.__get__"))) &&
    (decide (PySem.W.takesIn K (.ref (He.ma K (He.ga K c) f)) = some true) && (match PySem.W.recIn K (He.ma K (He.ga K c) f) "property" with | some (.ref g :: _) => decide (g = inRec "property" c f K) | _ => false)))
theorem propB_ok {c f : Str} {K : PySem.W.Frag} (h : propB c f K = true) : PropOf K (He.ga K c) f (He.ma K (He.ga K c) f) (inRec "property" c f K) := by
  obtain ⟨h1, h⟩ := Bool.and_eq_true_iff.mp h
  obtain ⟨h2, h⟩ := Bool.and_eq_true_iff.mp h
  obtain ⟨h3, h4⟩ := Bool.and_eq_true_iff.mp h
  refine ⟨He.eqO_ok h1, of_decide_eq_true h2, of_decide_eq_true h3, ?_⟩
  cases e : PySem.W.recIn K (He.ma K (He.ga K c) f) "property" with
  | none => rw [e] at h4; cases h4
  | some l =>
    rw [e] at h4
    cases l with
    | nil => cases h4
    | cons v r =>
      cases v with
      | ref g => exact ⟨r, by rw [of_decide_eq_true h4]⟩
      | _ => cases h4
def insB (c : Str) (K : PySem.W.Frag) : Bool := He.eqO (PySem.W.findIn K (.ref (He.ga K c)) "__class__") (some (some (.builtin "object.__class__"))) &&
  (decide (PySem.W.specialIn K (.builtin "object.__class__") "__get__" = some (some (.builtin "getset_descriptor.__get__"))) && (decide (PySem.W.takesIn K (.builtin "object.__class__") = some true) &&
    (decide (PySem.W.mroIn K (He.ga K c) (.type "object") = some true) && (decide (PySem.W.kitOne K (.ref (He.ga K c)) (.ref (He.ga K c)) = some true) && (PySem.W.notFirst K (He.ga K c) (.ref (He.ga K c)))))))
structure InsF (K : PySem.W.Frag) (C : Addr) : Prop where
  ha : PySem.W.findIn K (.ref C) "__class__" = some (some (.builtin "object.__class__"))
  hn : PySem.W.specialIn K (.builtin "object.__class__") "__get__" = some (some (.builtin "getset_descriptor.__get__"))
  htk : PySem.W.takesIn K (.builtin "object.__class__") = some true
  hm : PySem.W.mroIn K C (.type "object") = some true
  me : PySem.W.kitOne K (.ref C) (.ref C) = some true
  nf : PySem.W.notFirst K C (.ref C) = true
theorem insB_ok {c : Str} {K : PySem.W.Frag} (h : insB c K = true) : InsF K (He.ga K c) := by
  obtain ⟨h1, h⟩ := Bool.and_eq_true_iff.mp h
  obtain ⟨h2, h⟩ := Bool.and_eq_true_iff.mp h
  obtain ⟨h3, h⟩ := Bool.and_eq_true_iff.mp h
  obtain ⟨h4, h⟩ := Bool.and_eq_true_iff.mp h
  obtain ⟨h5, h6⟩ := Bool.and_eq_true_iff.mp h
  exact ⟨He.eqO_ok h1, of_decide_eq_true h2, of_decide_eq_true h3, of_decide_eq_true h4, of_decide_eq_true h5, h6⟩
/-- no value of this built-in type is an instance of the class, none goes first -/
def kitsB (c : Str) (ts : List String) (K : PySem.W.Frag) : Bool := ts.all fun t => decide (PySem.W.kitOne K (.type t) (.ref (He.ga K c)) = some false) && PySem.W.notFirst K (He.ga K c) (.type t)
theorem kitsB_ok {c : Str} {ts : List String} {K : PySem.W.Frag} (h : kitsB c ts K = true) {t : String} (ht : t ∈ ts) : PySem.W.kitOne K (.type t) (.ref (He.ga K c)) = some false ∧ PySem.W.notFirst K (He.ga K c) (.type t) = true := by
  obtain ⟨h1, h2⟩ := Bool.and_eq_true_iff.mp (List.all_eq_true.mp h t ht)
  exact ⟨of_decide_eq_true h1, h2⟩
def attB (c m : Str) (v : Value) (K : PySem.W.Frag) : Bool := He.eqO (PySem.W.findIn K (.ref (He.ga K c)) m) (some (some v))
abbrev Al : Type := Bool × List He.FnW
def seenBy (fa : List He.Fa) (ex : PySem.W.Frag → Bool) (fn : List Dn) (K : PySem.W.Frag) : Al := ((fa.all fun f => f.ok K) && (ex K && fn.all fun d => sound K d), fn.map fun d => shown K (d.1 K))
def wanted (fn : List Dn) : Al := (true, fn.map fun d => d.2.val)
def Says (fa : List He.Fa) (ex : PySem.W.Frag → Bool) (fn : List Dn) (K : PySem.W.Frag) : Prop := seenBy fa ex fn K = wanted fn
def atHeap (n : Nat) (fa : List He.Fa) (ex : PySem.W.Frag → Bool) (fn : List Dn) (g : Addr → Option Obj) : Al := seenBy fa ex fn (He.frG g (cStatics :: He.asD g n))
def hook (n : Nat) (fa : List He.Fa) (ex : PySem.W.Frag → Bool) (fn : List Dn) : PySem.W.Hook where
  α := Al
  obs := fun s => atHeap n fa ex fn s.heap.get?
  val := fun _ => wanted fn
  says := fun _ h => ∃ K : PySem.W.Frag, K.In h ∧ Says fa ex fn K
  of := fun _ _ e => ⟨_, He.frG_in, e⟩
  keeps := fun _ _ _ ⟨K, hK, c⟩ k => ⟨K, PySem.W.Frag.In.keeps hK k, c⟩
theorem at_eq {n : Nat} {fa : List He.Fa} {ex : PySem.W.Frag → Bool} {fn : List Dn} {g : Addr → Option Obj} {s : Shared} (h : ∀ a, g a = s.heap.get? a) : atHeap n fa ex fn g = (hook n fa ex fn).obs s := by
  obtain rfl : g = s.heap.get? := funext h
  rfl
section
variable {fa : List He.Fa} {ex : PySem.W.Frag → Bool} {fn : List Dn} {K : PySem.W.Frag}
theorem Says.fst (c : Says fa ex fn K) : ((fa.all fun f => f.ok K) && (ex K && fn.all fun d => sound K d)) = true := congrArg (fun z : Al => z.1) c
theorem Says.fact (c : Says fa ex fn K) {f : He.Fa} (h : f ∈ fa) : f.ok K = true := List.all_eq_true.mp (Bool.and_eq_true_iff.mp c.fst).1 f h
theorem Says.more (c : Says fa ex fn K) : ex K = true := (Bool.and_eq_true_iff.mp (Bool.and_eq_true_iff.mp c.fst).2).1
theorem Says.fun_ (c : Says fa ex fn K) (i : Nat) {d : Dn} (h : fn[i]? = some d) : ∃ fd, FunD K d.2.name d.2.qual d.2.params d.2.body d.2.scope (d.2.dvs K) (d.2.kws K) (d.1 K) fd := by
  have all := List.all_eq_true.mp (Bool.and_eq_true_iff.mp (Bool.and_eq_true_iff.mp c.fst).2).2 d (List.mem_of_getElem? h)
  have e : fn.map (fun d => shown K (d.1 K)) = fn.map fun d => d.2.val := congrArg (fun z : Al => z.2) c
  have e2 : (fn.map fun d => shown K (d.1 K))[i]? = (fn.map fun d => d.2.val)[i]? := by rw [e]
  rw [List.getElem?_map, List.getElem?_map, h] at e2
  exact sound_fun (Option.some.inj e2) all
end
end Hd
namespace Hd
open PySem PySem.Spec PyProof.Rows L2
def cmB (c m : Str) (K : PySem.W.Frag) : Bool := PySem.W.readsIn K (He.ga K c) (.type "type") && (He.eqO (PySem.W.specialIn K (.ref (He.ga K c)) "__getattribute__") (some (some (.builtin "type.__getattribute__"))) &&
  ((match PySem.W.findCls K (.ref (He.ga K c)) (.type "type") m with | some (.get (.builtin a) (.ref p) .none (.ref C)) => decide (a = "classmethod.__get__") && (decide (p = He.ma K (He.ga K c) m) && decide (C = He.ga K c)) | _ => false) &&
    ((match PySem.W.recIn K (He.ma K (He.ga K c) m) "classmethod" with | some (.ref g :: _) => decide (g = inRec "classmethod" c m K) | _ => false) && PySem.W.fnIn K (inRec "classmethod" c m K))))
theorem cmB_ok {c m : Str} {K : PySem.W.Frag} (h : cmB c m K = true) : ClX.CRead K (He.ga K c) (.type "type") ∧ ClX.CMet K (He.ga K c) (.type "type") m (He.ma K (He.ga K c) m) (inRec "classmethod" c m K) := by
  obtain ⟨h1, h⟩ := Bool.and_eq_true_iff.mp h
  obtain ⟨h2, h⟩ := Bool.and_eq_true_iff.mp h
  obtain ⟨h3, h⟩ := Bool.and_eq_true_iff.mp h
  obtain ⟨h4, h5⟩ := Bool.and_eq_true_iff.mp h
  refine ⟨⟨h1, He.eqO_ok h2⟩, ⟨?_, ?_, h5⟩⟩
  · cases e : PySem.W.findCls K (.ref (He.ga K c)) (.type "type") m with
    | none => rw [e] at h3; cases h3
    | some r =>
      rw [e] at h3
      cases r with
      | get a b d f =>
        cases a <;> try (cases h3; done)
        cases b <;> try (cases h3; done)
        cases d <;> try (cases h3; done)
        cases f <;> try (cases h3; done)
        obtain ⟨q1, q⟩ := Bool.and_eq_true_iff.mp h3
        obtain ⟨q2, q3⟩ := Bool.and_eq_true_iff.mp q
        rw [of_decide_eq_true q1, of_decide_eq_true q2, of_decide_eq_true q3]
      | val v => cases h3
  · cases e : PySem.W.recIn K (He.ma K (He.ga K c) m) "classmethod" with
    | none => rw [e] at h4; cases h4
    | some l =>
      rw [e] at h4
      cases l with
      | nil => cases h4
      | cons v r =>
        cases v with
        | ref g => exact ⟨r, by rw [of_decide_eq_true h4]⟩
        | _ => cases h4
end Hd
/-! ## short words over the layer -/
namespace Bs
open PySem PySem.Spec PyProof.Rows L2
variable {P : Program} {w : World} {K : PySem.W.Frag} {mg : Str → Option Value} {base : Heap}
/-- a promise's def, called by its name, no defaults asked -/
theorem mkCal {nm qual x : Str} {par : Arguments} {bd : List Stmt} {sco : Scope} {N ps : List Str} {k : Nat} {sp : Sp} {kws : List (Str × V)} {dvs dvs' : List V} {ds : List Value} {a : Addr} {fd : FuncData}
    (F : FunD K nm qual par bd sco dvs' kws a fd) (hm : mg x = some (.ref a)) (b : Binds K fd ps ds) (v : Vals dvs ds) (S : FnScope N ps sco) (len : ∀ vs H Q E, sp vs H Q E → vs.length = ps.length)
    (body : ∀ (cdv : Value) (A : Around) (outer : List Env) (s : Shared) (H : Hp) (vs : List V) (Q : VK) (E : XK), Room k (A.deeper (envOfC qual sco s.heap.objs.size a cdv)) → sp vs H Q E →
      ∃ t, PSs (cxOf C8.CX0 P w K mg base N qual sco a cdv A outer s H E).nox bd t ∧ t { nx := fun _ H' => Q .non H', rt := Q } (start N vs) H) : C8.Cal P w K mg base (k + 1) x sp dvs :=
  ⟨a, fd, ps, ds, F.ok S len fun cdv A outer s H vs Q E hr h => let ⟨t, h1, h2⟩ := body cdv A outer s H vs Q E hr h
    ⟨t, h1.nox, h2⟩, hm, F.kp, b, v⟩
theorem Cal.mono {j k : Nat} {x : Str} {sp : Sp} {dvs : List V} (c : C8.Cal P w K mg base j x sp dvs) (h : j ≤ k) : C8.Cal P w K mg base k x sp dvs := by
  obtain ⟨f, fd, ps, ds, F, r⟩ := c.ex
  exact ⟨f, fd, ps, ds, F.mono h, r⟩
/-- all is kept but what stands at p -/
def Kp (p : Addr) (H H' : Hp) : Prop := ∀ b o, H b = some o → b ≠ p → H' b = some o
theorem Kp.refl (p : Addr) (H : Hp) : Kp p H H := fun _ _ e _ => e
theorem Kp.trans {p : Addr} {H H1 H2 : Hp} (a : Kp p H H1) (b : Kp p H1 H2) : Kp p H H2 := fun c o e n => b c o (a c o e n) n
theorem Kp.of {p : Addr} {H H' : Hp} (a : Same H H') : Kp p H H' := fun c o e _ => a c o e
theorem Kp.upd {p : Addr} {H : Hp} {o : HO} : Kp p H (upd H p o) := fun c u e n => by rw [upd_ne n]; exact e
theorem Kp.new {p q : Addr} {H H' : Hp} {o : HO} (a : Kp p H H') (hq : H' q = none) : Kp p H (L2.upd H' q o) := fun c u e n => by rw [upd_ne (ne_of_none (a c u e n) hq)]; exact a c u e n
theorem Kp.put {p : Addr} {H H' : Hp} {o : HO} (a : Kp p H H') : Kp p H (L2.upd H' p o) := fun c u e n => by rw [upd_ne n]; exact a c u e n
/-- a step at an address that was free when the count began -/
theorem Kp.loc {p q : Addr} {H H' : Hp} {o : HO} (a : Kp p H H') (hq : H q = none) : Kp p H (L2.upd H' q o) := fun c u e n => by rw [upd_ne (ne_of_none e hq)]; exact a c u e n
theorem Same.new {q : Addr} {H H' : Hp} {o : HO} (a : Same H H') (hq : H' q = none) : Same H (L2.upd H' q o) := fun c u e => by rw [upd_ne (ne_of_none (a c u e) hq)]; exact a c u e
theorem Same.loc {q : Addr} {H H' : Hp} {o : HO} (a : Same H H') (hq : H q = none) : Same H (L2.upd H' q o) := fun c u e => by rw [upd_ne (ne_of_none e hq)]; exact a c u e
theorem SqL.kp {p a : Addr} {H H' : Hp} {xs : List V} (h : SqL K H a xs) (k : Kp p H H') (n : ∀ o, H a = some o → a ≠ p) : SqL K H' a xs := by
  rcases h with (h | ⟨o, h⟩) | h
  · exact .inl (.inl (k a _ h (n _ h)))
  · exact .inl (.inr ⟨o, k a _ h (n _ h)⟩)
  · exact .inr h
theorem SqT.kp {p a : Addr} {H H' : Hp} {xs : List V} (h : SqT K H a xs) (k : Kp p H H') (n : ∀ o, H a = some o → a ≠ p) : SqT K H' a xs := by
  rcases h with (h | ⟨o, h⟩) | h
  · exact .inl (.inl (k a _ h (n _ h)))
  · exact .inl (.inr ⟨o, k a _ h (n _ h)⟩)
  · exact .inr h
/-- the pen's dict: the script, the place of the next cell, what is left of a large one -/
def penD (a : Addr) (i l : Int) : HO := .dK [(Sum.inr "script", .ref a), (Sum.inr "at", .int i), (Sum.inr "left", .int l)]
/-- a locked list: nothing that runs changes it -/
def Fz (K : PySem.W.Frag) (H : Hp) (a : Addr) (xs : List V) : Prop := (∃ o, H a = some (.frz o (.lst xs))) ∨ ∀ H' : Hp, SqL K H' a xs
theorem Fz.sq {H : Hp} {a : Addr} {xs : List V} (h : Fz K H a xs) : SqL K H a xs := by
  rcases h with ⟨o, h⟩ | h
  · exact .inl (.inr ⟨o, h⟩)
  · exact h H
theorem Fz.to {H H' : Hp} {a : Addr} {xs : List V} (h : Fz K H a xs) (k : ∀ o u, H a = some (.frz o u) → H' a = some (.frz o u)) : Fz K H' a xs := by
  rcases h with ⟨o, h⟩ | h
  · exact .inl ⟨o, k _ _ h⟩
  · exact .inr h
theorem Fz.only {H : Hp} {a : Addr} {xs : List V} (o : Only H) (h : SqL K H a xs) : Fz K H a xs := by
  rcases h with (h | h) | h
  · rcases o a with e | ⟨_, _, e⟩
    · rw [e] at h; cases h
    · rw [e] at h; cases h
  · exact .inl h
  · exact .inr fun _ => .inr h
/-- what is at q is no locked thing -/
def Loose (H : Hp) (q : Addr) : Prop := ∀ o u, H q ≠ some (.frz o u)
theorem Loose.nil {H : Hp} {q : Addr} (h : H q = none) : Loose H q := fun o u e => by rw [h] at e; cases e
theorem Loose.lst {H : Hp} {q : Addr} {xs : List V} (h : H q = some (.lst xs)) : Loose H q := fun o u e => by rw [h] at e; cases e
theorem Loose.dK {H : Hp} {q : Addr} {xs : List (Key × V)} (h : H q = some (.dK xs)) : Loose H q := fun o u e => by rw [h] at e; cases e
theorem Fz.upd {H : Hp} {q a : Addr} {xs : List V} {u : HO} (h : Fz K H a xs) (l : Loose H q) : Fz K (L2.upd H q u) a xs :=
  h.to fun o v e => by rw [upd_ne (fun z => l o v (by rw [← z]; exact e))]; exact e
/-- a pen at p that has drawn at most n cells -/
def Pen (K : PySem.W.Frag) (H : Hp) (p : Addr) (n : Nat) : Prop := ∃ (a : Addr) (ns : List Int) (i l : Int), H p = some (penD a i l) ∧ Fz K H a (ns.map V.int) ∧ ns.length ≤ 63 ∧ 0 ≤ i ∧ i ≤ n ∧ 0 ≤ l
theorem Pen.mono {H : Hp} {p : Addr} {n m : Nat} (h : Pen K H p n) (l : n ≤ m) : Pen K H p m := by
  obtain ⟨a, ns, i, q, h1, h2, h3, h4, h5, h6⟩ := h
  exact ⟨a, ns, i, q, h1, h2, h3, h4, by omega, h6⟩
theorem Fz.kpen {H H' : Hp} {p a : Addr} {i l : Int} {b : Addr} {xs : List V} (h : H p = some (penD a i l)) (s : Fz K H b xs) (k : Kp p H H') : Fz K H' b xs :=
  s.to fun o u e => k b _ e (ne_of e h (by intro z; cases z))
/-- other objects are made or changed, the pen is not -/
theorem Pen.same {H H' : Hp} {p : Addr} {n : Nat} (h : Pen K H p n) (k : Same H H') : Pen K H' p n := by
  obtain ⟨a, ns, i, q, h1, h2, h3, h4, h5, h6⟩ := h
  exact ⟨a, ns, i, q, k _ _ h1, h2.to fun _ _ e => k _ _ e, h3, h4, h5, h6⟩
theorem Pen.upd {H : Hp} {p q : Addr} {n : Nat} {o : HO} (h : Pen K H p n) (hq : H q = none) : Pen K (L2.upd H q o) p n := h.same (Same.new (Same.refl H) hq)
theorem Pen.put {H : Hp} {p q : Addr} {n : Nat} {o : HO} {xs : List V} (h : Pen K H p n) (hq : H q = .some (.lst xs)) : Pen K (L2.upd H q o) p n := by
  obtain ⟨a, ns, i, l, h1, h2, h3, h4, h5, h6⟩ := h
  exact ⟨a, ns, i, l, by rw [upd_ne (ne_of h1 hq (by intro z; cases z))]; exact h1, h2.upd (Loose.lst hq), h3, h4, h5, h6⟩
theorem Kp.free {p D : Addr} {H H' : Hp} (k : Kp p H H') (h : H' D = none) (hp : H' p ≠ none) : H D = none := by
  have ne : D ≠ p := fun q => hp (by rw [← q]; exact h)
  cases e : H D with
  | none => rfl
  | some o => rw [k D o e ne] at h; cases h
theorem Pen.ne {H : Hp} {p D : Addr} {n : Nat} (h : Pen K H p n) (e : H D = none) : D ≠ p := by
  obtain ⟨_, _, _, _, hp, _⟩ := h
  exact (ne_of_none hp e).symm
theorem Pen.there {H : Hp} {p : Addr} {n : Nat} (h : Pen K H p n) : H p ≠ none := by
  obtain ⟨_, _, _, _, hp, _⟩ := h
  rw [hp]
  exact fun q => by cases q
theorem Pen.nel {H : Hp} {p D : Addr} {n : Nat} {xs : List V} (h : Pen K H p n) (e : H D = .some (.lst xs)) : D ≠ p := by
  obtain ⟨_, _, _, _, hp, _⟩ := h
  exact ne_of e hp (by intro z; cases z)
theorem Pen.net {H : Hp} {p D : Addr} {n : Nat} {xs : List V} (h : Pen K H p n) (e : H D = .some (.tup xs)) : D ≠ p := by
  obtain ⟨_, _, _, _, hp, _⟩ := h
  exact ne_of e hp (by intro z; cases z)
theorem script_ne : ¬ (("script" : Str) = "at") ∧ ¬ (("script" : Str) = "left") ∧ ¬ (("at" : Str) = "left") ∧ ¬ (("at" : Str) = "script") ∧ ¬ (("left" : Str) = "script") ∧ ¬ (("left" : Str) = "at") := by decide +kernel
theorem atI_of {α : Type} {xs : List α} {k : Int} (h0 : 0 ≤ k) (h1 : k < (xs.length : Nat)) : ∃ v, atI xs k = some v ∧ v ∈ xs ∧ xs[k.toNat]? = some v := by
  have hk : k.toNat < xs.length := by omega
  have ek : k = ((k.toNat : Nat) : Int) := by omega
  refine ⟨xs[k.toNat], ?_, List.getElem_mem hk, List.getElem?_eq_getElem hk⟩
  have z : atI xs ((k.toNat : Nat) : Int) = some xs[k.toNat] := atI_nat (List.getElem?_eq_getElem hk)
  rw [← ek] at z
  exact z
theorem atI_int {ns : List Int} {k : Int} (h0 : 0 ≤ k) (h1 : k < (ns.length : Nat)) : ∃ v : Int, atI (ns.map V.int) k = some (.int v) ∧ v ∈ ns := by
  obtain ⟨x, e, hx, _⟩ := atI_of (xs := ns.map V.int) h0 (by rw [List.length_map]; exact h1)
  obtain ⟨v, hv, rfl⟩ := List.mem_map.mp hx
  exact ⟨v, e, hv⟩
end Bs
namespace Pf
open PySem PySem.Spec PyProof.Rows L2
def top (i : Nat) : Stmt := PySem.Challenge.pw_splitplans_k58_states_and_their_texts.main.body.getD i (.Pass ⟨0, 0, 0, 0⟩)
abbrev s_Term_init : Stmt := inClass (top 13) 0
abbrev s_Term_depth : Stmt := inClass (top 13) 2
abbrev s_Term_eq : Stmt := inClass (top 13) 6
abbrev s_Term_str : Stmt := inClass (top 13) 7
abbrev s_row_term : Stmt := top 14
abbrev s_column_term : Stmt := top 15
abbrev s_place_term : Stmt := top 16
abbrev s_zero_term : Stmt := top 17
abbrev s_function_term : Stmt := top 18
abbrev s_rule_term : Stmt := top 19
abbrev s_text_of : Stmt := top 20
abbrev s_State_init : Stmt := inClass (top 28) 0
abbrev s_State_eq : Stmt := inClass (top 28) 1
abbrev s_State_str : Stmt := inClass (top 28) 2
abbrev s_text_of2 : Stmt := top 29
abbrev s_Lpen : Stmt := top 32
abbrev s_Ldraw : Stmt := top 33
abbrev s_Lterm : Stmt := top 34
abbrev s_Lstate : Stmt := top 35
abbrev s_Lright : Stmt := top 36
abbrev s_law : Stmt := top 37
def d_Term_init : Hd.Dn := Hd.dM "Term" "__init__" "Term.__init__" s_Term_init [.bl false] []
def d_Term_depth : Hd.Dn := Hd.dR "property" "Term" "depth" "Term.depth" s_Term_depth [] []
def d_Term_eq : Hd.Dn := Hd.dM "Term" "__eq__" "Term.__eq__" s_Term_eq [] []
def d_Term_str : Hd.Dn := Hd.dM "Term" "__str__" "Term.__str__" s_Term_str [] []
def d_row_term : Hd.Dn := Hd.dG "row_term" s_row_term [.bl false] []
def d_column_term : Hd.Dn := Hd.dG "column_term" s_column_term [.bl false] []
def d_place_term : Hd.Dn := Hd.dG "place_term" s_place_term [.bl false] []
def d_zero_term : Hd.Dn := Hd.dG "zero_term" s_zero_term [] []
def d_function_term : Hd.Dn := Hd.dG "function_term" s_function_term [] []
def d_rule_term : Hd.Dn := Hd.dG "rule_term" s_rule_term [] []
def d_text_of : Hd.Dn := (fun K => He.ga K "text_of_terms", ⟨("text_of_terms", none), "_text_of", "_text_of", defArgs s_text_of, defBody s_text_of, defScope s_text_of, [], []⟩)
def d_State_init : Hd.Dn := Hd.dM "State" "__init__" "State.__init__" s_State_init [.non, .adr (He.dflAt ("State", some "__init__") 1)] []
def d_State_eq : Hd.Dn := Hd.dM "State" "__eq__" "State.__eq__" s_State_eq [] []
def d_State_str : Hd.Dn := Hd.dM "State" "__str__" "State.__str__" s_State_str [] []
def d_text_of2 : Hd.Dn := (fun K => He.ga K "text_of_places", ⟨("text_of_places", none), "_text_of", "_text_of", defArgs s_text_of2, defBody s_text_of2, defScope s_text_of2, [], []⟩)
def d_Lpen : Hd.Dn := Hd.dG "_law_pen" s_Lpen [] []
def d_Ldraw : Hd.Dn := Hd.dG "_law_draw" s_Ldraw [] []
def d_Lterm : Hd.Dn := Hd.dG "_law_term" s_Lterm [] []
def d_Lstate : Hd.Dn := Hd.dG "_law_state" s_Lstate [] []
def d_Lright : Hd.Dn := Hd.dG "_law_right" s_Lright [] []
def d_law : Hd.Dn := Hd.dG "law" s_law [] []
def defs : List Hd.Dn := [d_Term_init, d_Term_depth, d_Term_eq, d_Term_str, d_row_term, d_column_term, d_place_term, d_zero_term, d_function_term, d_rule_term, d_text_of, d_State_init, d_State_eq, d_State_str, d_text_of2, d_Lpen, d_Ldraw, d_Lterm, d_Lstate, d_Lright, d_law]
def fa : List He.Fa := [.glo "PlanError", .glo "InputError", .glo "InvalidTerm", .glo "is_name", .glo "Term", .glo "row_term", .glo "column_term", .glo "place_term", .glo "zero_term", .glo "function_term", .glo "rule_term", .glo "_text_of", .glo "_read_term", .glo "_read_row", .glo "_read_value", .glo "_read_call", .glo "_pieces", .glo "State", .glo "_law_pen", .glo "_law_draw", .glo "_law_term", .glo "_law_state", .glo "_law_right", .glo "law", .free "abs", .free "all", .free "bool", .free "int", .free "isinstance", .free "len", .free "list", .free "max", .free "min", .free "range", .free "str", .free "tuple", .glo "text_of_terms", .glo "text_of_places", .cls "Term", .mkr "Term", .noat "Term" "kind", .noat "Term" "name", .noat "Term" "parts", .noat "Term" "marked", .noat "Term" "text", .noat "Term" "_depth", .meth "Term" "__init__", .meth "Term" "__eq__", .meth "Term" "__str__", .cls "State", .mkr "State", .noat "State" "term", .noat "State" "wants", .noat "State" "text", .meth "State" "__init__", .meth "State" "__eq__", .meth "State" "__str__"]
def loose0 : List PySem.Str := ["_wall", "PlanError", "InputError", "InvalidTerm", "MOST_CHARACTERS", "LETTERS", "CHARACTERS", "WORDS", "is_name", "MOST_PARTS", "Term", "row_term", "column_term", "place_term", "zero_term", "function_term", "rule_term", "_text_of", "text_of_terms", "_read_term"]
def loose1 : List PySem.Str := ["_read_row", "_read_value", "_read_call", "_pieces", "State", "text_of_places", "_law_pen", "_law_draw", "_law_term", "_law_state", "_law_right"]
def looseN : List PySem.Str := loose0 ++ loose1

end Pf
namespace Hd
open PySem PySem.Spec PyProof.Rows L2
/-- an empty tuple of the written part -/
def etB (K : PySem.W.Frag) (a : Addr) : Bool := match K.lookup a with
  | some ⟨.type "tuple", none, .seq vs 0, sl⟩ => vs.isEmpty && sl.isEmpty
  | _ => false
end Hd
namespace Pf
open PySem PySem.Spec PyProof.Rows L2
def ex (K : PySem.W.Frag) : Bool := (Hd.insB "Term" K && (Hd.kitsB "Term" ["NoneType", "bool", "int", "str", "list", "tuple", "dict"] K && (Hd.propB "Term" "depth" K && (Hd.attB "Term" "__ne__" (.builtin "object.__ne__") K && (Hd.insB "State" K && (Hd.kitsB "State" ["NoneType", "bool", "int", "str", "list", "tuple", "dict"] K && (Hd.attB "State" "__ne__" (.builtin "object.__ne__") K && (decide (PySem.W.kitOne K (.type "tuple") (.type "tuple") = some true) && (Hd.etB K (He.dflAt ("State", some "__init__") 1 K) && true)))))))))
/-- what the head tells -/
structure Tx (K : PySem.W.Frag) (mg : Str → Option Value) : Prop where
  says : Hd.Says fa ex defs K
  glo : ∀ x, He.Fa.glo x ∈ fa → mg x = some (.ref (He.ga K x))
  fre : ∀ x, He.Fa.free x ∈ fa → mg x = none
  cin : ∀ x i, He.Fa.int x i ∈ fa → ∃ t, mg x = some (.int i t)
  cst : ∀ x z, He.Fa.str x z ∈ fa → ∃ t, mg x = some (.str z t)
section
variable {K : PySem.W.Frag} {mg : Str → Option Value}
theorem g_PlanError (T : Tx K mg) : mg "PlanError" = some (.ref (He.ga K "PlanError")) := T.glo _ (List.mem_of_getElem? (i := 0) rfl)
theorem g_InputError (T : Tx K mg) : mg "InputError" = some (.ref (He.ga K "InputError")) := T.glo _ (List.mem_of_getElem? (i := 1) rfl)
theorem g_InvalidTerm (T : Tx K mg) : mg "InvalidTerm" = some (.ref (He.ga K "InvalidTerm")) := T.glo _ (List.mem_of_getElem? (i := 2) rfl)
theorem g_is_name (T : Tx K mg) : mg "is_name" = some (.ref (He.ga K "is_name")) := T.glo _ (List.mem_of_getElem? (i := 3) rfl)
theorem g_Term (T : Tx K mg) : mg "Term" = some (.ref (He.ga K "Term")) := T.glo _ (List.mem_of_getElem? (i := 4) rfl)
theorem g_row_term (T : Tx K mg) : mg "row_term" = some (.ref (He.ga K "row_term")) := T.glo _ (List.mem_of_getElem? (i := 5) rfl)
theorem g_column_term (T : Tx K mg) : mg "column_term" = some (.ref (He.ga K "column_term")) := T.glo _ (List.mem_of_getElem? (i := 6) rfl)
theorem g_place_term (T : Tx K mg) : mg "place_term" = some (.ref (He.ga K "place_term")) := T.glo _ (List.mem_of_getElem? (i := 7) rfl)
theorem g_zero_term (T : Tx K mg) : mg "zero_term" = some (.ref (He.ga K "zero_term")) := T.glo _ (List.mem_of_getElem? (i := 8) rfl)
theorem g_function_term (T : Tx K mg) : mg "function_term" = some (.ref (He.ga K "function_term")) := T.glo _ (List.mem_of_getElem? (i := 9) rfl)
theorem g_rule_term (T : Tx K mg) : mg "rule_term" = some (.ref (He.ga K "rule_term")) := T.glo _ (List.mem_of_getElem? (i := 10) rfl)
theorem g_text_of (T : Tx K mg) : mg "_text_of" = some (.ref (He.ga K "_text_of")) := T.glo _ (List.mem_of_getElem? (i := 11) rfl)
theorem g_read_term (T : Tx K mg) : mg "_read_term" = some (.ref (He.ga K "_read_term")) := T.glo _ (List.mem_of_getElem? (i := 12) rfl)
theorem g_read_row (T : Tx K mg) : mg "_read_row" = some (.ref (He.ga K "_read_row")) := T.glo _ (List.mem_of_getElem? (i := 13) rfl)
theorem g_read_value (T : Tx K mg) : mg "_read_value" = some (.ref (He.ga K "_read_value")) := T.glo _ (List.mem_of_getElem? (i := 14) rfl)
theorem g_read_call (T : Tx K mg) : mg "_read_call" = some (.ref (He.ga K "_read_call")) := T.glo _ (List.mem_of_getElem? (i := 15) rfl)
theorem g_pieces (T : Tx K mg) : mg "_pieces" = some (.ref (He.ga K "_pieces")) := T.glo _ (List.mem_of_getElem? (i := 16) rfl)
theorem g_State (T : Tx K mg) : mg "State" = some (.ref (He.ga K "State")) := T.glo _ (List.mem_of_getElem? (i := 17) rfl)
theorem g_law_pen (T : Tx K mg) : mg "_law_pen" = some (.ref (He.ga K "_law_pen")) := T.glo _ (List.mem_of_getElem? (i := 18) rfl)
theorem g_law_draw (T : Tx K mg) : mg "_law_draw" = some (.ref (He.ga K "_law_draw")) := T.glo _ (List.mem_of_getElem? (i := 19) rfl)
theorem g_law_term (T : Tx K mg) : mg "_law_term" = some (.ref (He.ga K "_law_term")) := T.glo _ (List.mem_of_getElem? (i := 20) rfl)
theorem g_law_state (T : Tx K mg) : mg "_law_state" = some (.ref (He.ga K "_law_state")) := T.glo _ (List.mem_of_getElem? (i := 21) rfl)
theorem g_law_right (T : Tx K mg) : mg "_law_right" = some (.ref (He.ga K "_law_right")) := T.glo _ (List.mem_of_getElem? (i := 22) rfl)
theorem g_law (T : Tx K mg) : mg "law" = some (.ref (He.ga K "law")) := T.glo _ (List.mem_of_getElem? (i := 23) rfl)
theorem z_abs (T : Tx K mg) : mg "abs" = none := T.fre _ (List.mem_of_getElem? (i := 24) rfl)
theorem z_all (T : Tx K mg) : mg "all" = none := T.fre _ (List.mem_of_getElem? (i := 25) rfl)
theorem z_bool (T : Tx K mg) : mg "bool" = none := T.fre _ (List.mem_of_getElem? (i := 26) rfl)
theorem z_int (T : Tx K mg) : mg "int" = none := T.fre _ (List.mem_of_getElem? (i := 27) rfl)
theorem z_isinstance (T : Tx K mg) : mg "isinstance" = none := T.fre _ (List.mem_of_getElem? (i := 28) rfl)
theorem z_len (T : Tx K mg) : mg "len" = none := T.fre _ (List.mem_of_getElem? (i := 29) rfl)
theorem z_list (T : Tx K mg) : mg "list" = none := T.fre _ (List.mem_of_getElem? (i := 30) rfl)
theorem z_max (T : Tx K mg) : mg "max" = none := T.fre _ (List.mem_of_getElem? (i := 31) rfl)
theorem z_min (T : Tx K mg) : mg "min" = none := T.fre _ (List.mem_of_getElem? (i := 32) rfl)
theorem z_range (T : Tx K mg) : mg "range" = none := T.fre _ (List.mem_of_getElem? (i := 33) rfl)
theorem z_str (T : Tx K mg) : mg "str" = none := T.fre _ (List.mem_of_getElem? (i := 34) rfl)
theorem z_tuple (T : Tx K mg) : mg "tuple" = none := T.fre _ (List.mem_of_getElem? (i := 35) rfl)
theorem g_text_of_terms (T : Tx K mg) : mg "text_of_terms" = some (.ref (He.ga K "text_of_terms")) := T.glo _ (List.mem_of_getElem? (i := 36) rfl)
theorem g_text_of_places (T : Tx K mg) : mg "text_of_places" = some (.ref (He.ga K "text_of_places")) := T.glo _ (List.mem_of_getElem? (i := 37) rfl)
theorem cls_Term_ (T : Tx K mg) : Cls K (He.ga K "Term") := He.cls_ok (T.says.fact (List.mem_of_getElem? (i := 38) rfl))
theorem mkr_Term_ (T : Tx K mg) : Mk K (He.ga K "Term") (He.ma K (He.ga K "Term") "__init__") := He.mkr_ok (T.says.fact (List.mem_of_getElem? (i := 39) rfl))
theorem noat_Term_kind (T : Tx K mg) : NoAttr K (He.ga K "Term") "kind" := He.noat_ok (T.says.fact (List.mem_of_getElem? (i := 40) rfl))
theorem noat_Term_name (T : Tx K mg) : NoAttr K (He.ga K "Term") "name" := He.noat_ok (T.says.fact (List.mem_of_getElem? (i := 41) rfl))
theorem noat_Term_parts (T : Tx K mg) : NoAttr K (He.ga K "Term") "parts" := He.noat_ok (T.says.fact (List.mem_of_getElem? (i := 42) rfl))
theorem noat_Term_marked (T : Tx K mg) : NoAttr K (He.ga K "Term") "marked" := He.noat_ok (T.says.fact (List.mem_of_getElem? (i := 43) rfl))
theorem noat_Term_text (T : Tx K mg) : NoAttr K (He.ga K "Term") "text" := He.noat_ok (T.says.fact (List.mem_of_getElem? (i := 44) rfl))
theorem noat_Term_depth (T : Tx K mg) : NoAttr K (He.ga K "Term") "_depth" := He.noat_ok (T.says.fact (List.mem_of_getElem? (i := 45) rfl))
theorem meth_Term_init (T : Tx K mg) : Meth K (He.ga K "Term") "__init__" (He.ma K (He.ga K "Term") "__init__") := He.meth_ok (T.says.fact (List.mem_of_getElem? (i := 46) rfl))
theorem meth_Term_eq (T : Tx K mg) : Meth K (He.ga K "Term") "__eq__" (He.ma K (He.ga K "Term") "__eq__") := He.meth_ok (T.says.fact (List.mem_of_getElem? (i := 47) rfl))
theorem meth_Term_str (T : Tx K mg) : Meth K (He.ga K "Term") "__str__" (He.ma K (He.ga K "Term") "__str__") := He.meth_ok (T.says.fact (List.mem_of_getElem? (i := 48) rfl))
theorem cls_State_ (T : Tx K mg) : Cls K (He.ga K "State") := He.cls_ok (T.says.fact (List.mem_of_getElem? (i := 49) rfl))
theorem mkr_State_ (T : Tx K mg) : Mk K (He.ga K "State") (He.ma K (He.ga K "State") "__init__") := He.mkr_ok (T.says.fact (List.mem_of_getElem? (i := 50) rfl))
theorem noat_State_term (T : Tx K mg) : NoAttr K (He.ga K "State") "term" := He.noat_ok (T.says.fact (List.mem_of_getElem? (i := 51) rfl))
theorem noat_State_wants (T : Tx K mg) : NoAttr K (He.ga K "State") "wants" := He.noat_ok (T.says.fact (List.mem_of_getElem? (i := 52) rfl))
theorem noat_State_text (T : Tx K mg) : NoAttr K (He.ga K "State") "text" := He.noat_ok (T.says.fact (List.mem_of_getElem? (i := 53) rfl))
theorem meth_State_init (T : Tx K mg) : Meth K (He.ga K "State") "__init__" (He.ma K (He.ga K "State") "__init__") := He.meth_ok (T.says.fact (List.mem_of_getElem? (i := 54) rfl))
theorem meth_State_eq (T : Tx K mg) : Meth K (He.ga K "State") "__eq__" (He.ma K (He.ga K "State") "__eq__") := He.meth_ok (T.says.fact (List.mem_of_getElem? (i := 55) rfl))
theorem meth_State_str (T : Tx K mg) : Meth K (He.ga K "State") "__str__" (He.ma K (He.ga K "State") "__str__") := He.meth_ok (T.says.fact (List.mem_of_getElem? (i := 56) rfl))
theorem exr_0 (T : Tx K mg) : (Hd.insB "Term" K && (Hd.kitsB "Term" ["NoneType", "bool", "int", "str", "list", "tuple", "dict"] K && (Hd.propB "Term" "depth" K && (Hd.attB "Term" "__ne__" (.builtin "object.__ne__") K && (Hd.insB "State" K && (Hd.kitsB "State" ["NoneType", "bool", "int", "str", "list", "tuple", "dict"] K && (Hd.attB "State" "__ne__" (.builtin "object.__ne__") K && (decide (PySem.W.kitOne K (.type "tuple") (.type "tuple") = some true) && (Hd.etB K (He.dflAt ("State", some "__init__") 1 K) && true))))))))) = true := T.says.more
theorem ex_0 (T : Tx K mg) : Hd.insB "Term" K = true := (Bool.and_eq_true_iff.mp (exr_0 T)).1
theorem exr_1 (T : Tx K mg) : (Hd.kitsB "Term" ["NoneType", "bool", "int", "str", "list", "tuple", "dict"] K && (Hd.propB "Term" "depth" K && (Hd.attB "Term" "__ne__" (.builtin "object.__ne__") K && (Hd.insB "State" K && (Hd.kitsB "State" ["NoneType", "bool", "int", "str", "list", "tuple", "dict"] K && (Hd.attB "State" "__ne__" (.builtin "object.__ne__") K && (decide (PySem.W.kitOne K (.type "tuple") (.type "tuple") = some true) && (Hd.etB K (He.dflAt ("State", some "__init__") 1 K) && true)))))))) = true := (Bool.and_eq_true_iff.mp (exr_0 T)).2
theorem ex_1 (T : Tx K mg) : Hd.kitsB "Term" ["NoneType", "bool", "int", "str", "list", "tuple", "dict"] K = true := (Bool.and_eq_true_iff.mp (exr_1 T)).1
theorem exr_2 (T : Tx K mg) : (Hd.propB "Term" "depth" K && (Hd.attB "Term" "__ne__" (.builtin "object.__ne__") K && (Hd.insB "State" K && (Hd.kitsB "State" ["NoneType", "bool", "int", "str", "list", "tuple", "dict"] K && (Hd.attB "State" "__ne__" (.builtin "object.__ne__") K && (decide (PySem.W.kitOne K (.type "tuple") (.type "tuple") = some true) && (Hd.etB K (He.dflAt ("State", some "__init__") 1 K) && true))))))) = true := (Bool.and_eq_true_iff.mp (exr_1 T)).2
theorem ex_2 (T : Tx K mg) : Hd.propB "Term" "depth" K = true := (Bool.and_eq_true_iff.mp (exr_2 T)).1
theorem exr_3 (T : Tx K mg) : (Hd.attB "Term" "__ne__" (.builtin "object.__ne__") K && (Hd.insB "State" K && (Hd.kitsB "State" ["NoneType", "bool", "int", "str", "list", "tuple", "dict"] K && (Hd.attB "State" "__ne__" (.builtin "object.__ne__") K && (decide (PySem.W.kitOne K (.type "tuple") (.type "tuple") = some true) && (Hd.etB K (He.dflAt ("State", some "__init__") 1 K) && true)))))) = true := (Bool.and_eq_true_iff.mp (exr_2 T)).2
theorem ex_3 (T : Tx K mg) : Hd.attB "Term" "__ne__" (.builtin "object.__ne__") K = true := (Bool.and_eq_true_iff.mp (exr_3 T)).1
theorem exr_4 (T : Tx K mg) : (Hd.insB "State" K && (Hd.kitsB "State" ["NoneType", "bool", "int", "str", "list", "tuple", "dict"] K && (Hd.attB "State" "__ne__" (.builtin "object.__ne__") K && (decide (PySem.W.kitOne K (.type "tuple") (.type "tuple") = some true) && (Hd.etB K (He.dflAt ("State", some "__init__") 1 K) && true))))) = true := (Bool.and_eq_true_iff.mp (exr_3 T)).2
theorem ex_4 (T : Tx K mg) : Hd.insB "State" K = true := (Bool.and_eq_true_iff.mp (exr_4 T)).1
theorem exr_5 (T : Tx K mg) : (Hd.kitsB "State" ["NoneType", "bool", "int", "str", "list", "tuple", "dict"] K && (Hd.attB "State" "__ne__" (.builtin "object.__ne__") K && (decide (PySem.W.kitOne K (.type "tuple") (.type "tuple") = some true) && (Hd.etB K (He.dflAt ("State", some "__init__") 1 K) && true)))) = true := (Bool.and_eq_true_iff.mp (exr_4 T)).2
theorem ex_5 (T : Tx K mg) : Hd.kitsB "State" ["NoneType", "bool", "int", "str", "list", "tuple", "dict"] K = true := (Bool.and_eq_true_iff.mp (exr_5 T)).1
theorem exr_6 (T : Tx K mg) : (Hd.attB "State" "__ne__" (.builtin "object.__ne__") K && (decide (PySem.W.kitOne K (.type "tuple") (.type "tuple") = some true) && (Hd.etB K (He.dflAt ("State", some "__init__") 1 K) && true))) = true := (Bool.and_eq_true_iff.mp (exr_5 T)).2
theorem ex_6 (T : Tx K mg) : Hd.attB "State" "__ne__" (.builtin "object.__ne__") K = true := (Bool.and_eq_true_iff.mp (exr_6 T)).1
theorem exr_7 (T : Tx K mg) : (decide (PySem.W.kitOne K (.type "tuple") (.type "tuple") = some true) && (Hd.etB K (He.dflAt ("State", some "__init__") 1 K) && true)) = true := (Bool.and_eq_true_iff.mp (exr_6 T)).2
theorem ex_7 (T : Tx K mg) : decide (PySem.W.kitOne K (.type "tuple") (.type "tuple") = some true) = true := (Bool.and_eq_true_iff.mp (exr_7 T)).1
theorem exr_8 (T : Tx K mg) : (Hd.etB K (He.dflAt ("State", some "__init__") 1 K) && true) = true := (Bool.and_eq_true_iff.mp (exr_7 T)).2
theorem ex_8 (T : Tx K mg) : Hd.etB K (He.dflAt ("State", some "__init__") 1 K) = true := (Bool.and_eq_true_iff.mp (exr_8 T)).1
theorem f_Term_init (T : Tx K mg) : ∃ fd, FunD K d_Term_init.2.name d_Term_init.2.qual d_Term_init.2.params d_Term_init.2.body d_Term_init.2.scope (d_Term_init.2.dvs K) (d_Term_init.2.kws K) (d_Term_init.1 K) fd := T.says.fun_ 0 rfl
theorem f_Term_depth (T : Tx K mg) : ∃ fd, FunD K d_Term_depth.2.name d_Term_depth.2.qual d_Term_depth.2.params d_Term_depth.2.body d_Term_depth.2.scope (d_Term_depth.2.dvs K) (d_Term_depth.2.kws K) (d_Term_depth.1 K) fd := T.says.fun_ 1 rfl
theorem f_Term_eq (T : Tx K mg) : ∃ fd, FunD K d_Term_eq.2.name d_Term_eq.2.qual d_Term_eq.2.params d_Term_eq.2.body d_Term_eq.2.scope (d_Term_eq.2.dvs K) (d_Term_eq.2.kws K) (d_Term_eq.1 K) fd := T.says.fun_ 2 rfl
theorem f_Term_str (T : Tx K mg) : ∃ fd, FunD K d_Term_str.2.name d_Term_str.2.qual d_Term_str.2.params d_Term_str.2.body d_Term_str.2.scope (d_Term_str.2.dvs K) (d_Term_str.2.kws K) (d_Term_str.1 K) fd := T.says.fun_ 3 rfl
theorem f_row_term (T : Tx K mg) : ∃ fd, FunD K d_row_term.2.name d_row_term.2.qual d_row_term.2.params d_row_term.2.body d_row_term.2.scope (d_row_term.2.dvs K) (d_row_term.2.kws K) (d_row_term.1 K) fd := T.says.fun_ 4 rfl
theorem f_column_term (T : Tx K mg) : ∃ fd, FunD K d_column_term.2.name d_column_term.2.qual d_column_term.2.params d_column_term.2.body d_column_term.2.scope (d_column_term.2.dvs K) (d_column_term.2.kws K) (d_column_term.1 K) fd := T.says.fun_ 5 rfl
theorem f_place_term (T : Tx K mg) : ∃ fd, FunD K d_place_term.2.name d_place_term.2.qual d_place_term.2.params d_place_term.2.body d_place_term.2.scope (d_place_term.2.dvs K) (d_place_term.2.kws K) (d_place_term.1 K) fd := T.says.fun_ 6 rfl
theorem f_zero_term (T : Tx K mg) : ∃ fd, FunD K d_zero_term.2.name d_zero_term.2.qual d_zero_term.2.params d_zero_term.2.body d_zero_term.2.scope (d_zero_term.2.dvs K) (d_zero_term.2.kws K) (d_zero_term.1 K) fd := T.says.fun_ 7 rfl
theorem f_function_term (T : Tx K mg) : ∃ fd, FunD K d_function_term.2.name d_function_term.2.qual d_function_term.2.params d_function_term.2.body d_function_term.2.scope (d_function_term.2.dvs K) (d_function_term.2.kws K) (d_function_term.1 K) fd := T.says.fun_ 8 rfl
theorem f_rule_term (T : Tx K mg) : ∃ fd, FunD K d_rule_term.2.name d_rule_term.2.qual d_rule_term.2.params d_rule_term.2.body d_rule_term.2.scope (d_rule_term.2.dvs K) (d_rule_term.2.kws K) (d_rule_term.1 K) fd := T.says.fun_ 9 rfl
theorem f_text_of (T : Tx K mg) : ∃ fd, FunD K d_text_of.2.name d_text_of.2.qual d_text_of.2.params d_text_of.2.body d_text_of.2.scope (d_text_of.2.dvs K) (d_text_of.2.kws K) (d_text_of.1 K) fd := T.says.fun_ 10 rfl
theorem f_State_init (T : Tx K mg) : ∃ fd, FunD K d_State_init.2.name d_State_init.2.qual d_State_init.2.params d_State_init.2.body d_State_init.2.scope (d_State_init.2.dvs K) (d_State_init.2.kws K) (d_State_init.1 K) fd := T.says.fun_ 11 rfl
theorem f_State_eq (T : Tx K mg) : ∃ fd, FunD K d_State_eq.2.name d_State_eq.2.qual d_State_eq.2.params d_State_eq.2.body d_State_eq.2.scope (d_State_eq.2.dvs K) (d_State_eq.2.kws K) (d_State_eq.1 K) fd := T.says.fun_ 12 rfl
theorem f_State_str (T : Tx K mg) : ∃ fd, FunD K d_State_str.2.name d_State_str.2.qual d_State_str.2.params d_State_str.2.body d_State_str.2.scope (d_State_str.2.dvs K) (d_State_str.2.kws K) (d_State_str.1 K) fd := T.says.fun_ 13 rfl
theorem f_text_of2 (T : Tx K mg) : ∃ fd, FunD K d_text_of2.2.name d_text_of2.2.qual d_text_of2.2.params d_text_of2.2.body d_text_of2.2.scope (d_text_of2.2.dvs K) (d_text_of2.2.kws K) (d_text_of2.1 K) fd := T.says.fun_ 14 rfl
theorem f_Lpen (T : Tx K mg) : ∃ fd, FunD K d_Lpen.2.name d_Lpen.2.qual d_Lpen.2.params d_Lpen.2.body d_Lpen.2.scope (d_Lpen.2.dvs K) (d_Lpen.2.kws K) (d_Lpen.1 K) fd := T.says.fun_ 15 rfl
theorem f_Ldraw (T : Tx K mg) : ∃ fd, FunD K d_Ldraw.2.name d_Ldraw.2.qual d_Ldraw.2.params d_Ldraw.2.body d_Ldraw.2.scope (d_Ldraw.2.dvs K) (d_Ldraw.2.kws K) (d_Ldraw.1 K) fd := T.says.fun_ 16 rfl
theorem f_Lterm (T : Tx K mg) : ∃ fd, FunD K d_Lterm.2.name d_Lterm.2.qual d_Lterm.2.params d_Lterm.2.body d_Lterm.2.scope (d_Lterm.2.dvs K) (d_Lterm.2.kws K) (d_Lterm.1 K) fd := T.says.fun_ 17 rfl
theorem f_Lstate (T : Tx K mg) : ∃ fd, FunD K d_Lstate.2.name d_Lstate.2.qual d_Lstate.2.params d_Lstate.2.body d_Lstate.2.scope (d_Lstate.2.dvs K) (d_Lstate.2.kws K) (d_Lstate.1 K) fd := T.says.fun_ 18 rfl
theorem f_Lright (T : Tx K mg) : ∃ fd, FunD K d_Lright.2.name d_Lright.2.qual d_Lright.2.params d_Lright.2.body d_Lright.2.scope (d_Lright.2.dvs K) (d_Lright.2.kws K) (d_Lright.1 K) fd := T.says.fun_ 19 rfl
theorem f_law (T : Tx K mg) : ∃ fd, FunD K d_law.2.name d_law.2.qual d_law.2.params d_law.2.body d_law.2.scope (d_law.2.dvs K) (d_law.2.kws K) (d_law.1 K) fd := T.says.fun_ 20 rfl
end
end Pf
namespace Bs
open PySem PySem.Spec PyProof.Rows L2
variable {X : Cx}
/-! ### rules of our own -/
/-- f() by its name -/
theorem pe_c0 {k j : Nat} {x : Str} {sp : Sp} {dvs : List V} {p pos : Pos} (c : C8.Cal X.prog X.w X.K X.mg X.base k x sp dvs) (hr : Room j X.A) (hk : k ≤ j) (hg : Gl X x) (hdb : (x == ("__debug__" : Str)) = false := by decide) :
    PE X (.Call (.Name x p) [] [] pos) (fun _ H Q => sp dvs H Q C8.E0) := by
  obtain ⟨f, fd, ps, ds, F, hm, kp, b, d⟩ := c.ex
  exact pe_call0 F (hr.mono hk) hg hm kp b d C8.pass0 hdb
/-- a short text, some times -/
def rRepS : R2 := fun x y H Q => ∃ z k, x = .str z ∧ y = .int k ∧ 0 ≤ k ∧ k ≤ 1000 ∧ z.length ≤ 1000 ∧ Q (.str ⟨(List.replicate k.toNat z.cps.toList).flatten.toArray⟩) H
theorem rep_flat (n : Nat) (c : Array Nat) : (List.replicate n c).foldl (fun x y => x ++ y) #[] = (List.replicate n c.toList).flatten.toArray := by
  have h : ∀ (n : Nat) (a : Array Nat), (List.replicate n c).foldl (fun x y => x ++ y) a = a ++ (List.replicate n c.toList).flatten.toArray := by
    intro n
    induction n with
    | zero => intro a; simp
    | succ n ih =>
      intro a
      rw [List.replicate_succ, List.foldl_cons, ih, List.replicate_succ, List.flatten_cons, Array.append_assoc]
      refine congrArg (a ++ ·) ?_
      apply Array.ext'
      simp
  rw [h]
  simp
theorem op_rep_str : OpR X (binaryOp .Mult) rRepS := by
  intro pins s σ H x y v u Q I rx ry h
  obtain ⟨z, k, rfl, rfl, h0, h1, hz, q⟩ := h
  obtain ⟨t, rfl⟩ := rx
  obtain ⟨t', rfl⟩ := ry
  have fin : ∀ (c : Str), c = ⟨(List.replicate k.toNat z.cps.toList).flatten.toArray⟩ → ∀ (t : Tok) (tk : Nat), EP X pins σ Q (.str c t) { s with toks := tk } := fun c e t tk => ⟨.str c, H, I.tok _, ⟨_, rfl⟩, by rw [e]; exact q⟩
  refine P.mul_str (by simp; omega) (fun h2 _ => ?_) (fun h2 _ => ?_) ?_
  · have h3 : 0 < k := by omega
    have h4 : (9223372036854775807 : Int) / 1000 ≤ 9223372036854775807 / k := by
      apply Int.le_ediv_of_mul_le h3
      omega
    have : (2 : Int) ^ 63 - 1 = 9223372036854775807 := by decide
    rw [this]
    omega
  · have h3 : z.length * k.toNat ≤ 1000 * 1000 := Nat.mul_le_mul hz (by omega)
    show decide (_ > sizeLine) = false
    exact decide_eq_false (by have : sizeLine = 16777216 := rfl; omega)
  · split
    · rename_i h2
      have e : k = 0 := by omega
      subst e
      refine ⟨by decide, fin _ ?_ _ _⟩
      simp [Str.empty]
    · split
      · rename_i h2 h3
        refine fin z ?_ t s.toks
        simp only [Bool.or_eq_true, beq_iff_eq] at h3
        rcases h3 with h3 | h3
        · subst h3
          apply TL.ext_tl
          simp [TL.tl]
        · have e : z.cps = #[] := Array.size_eq_zero_iff.mp h3
          apply TL.ext_tl
          simp [TL.tl, e]
      · rw [rep_flat]
        refine ⟨?_, fin _ rfl _ _⟩
        have h3 : k.toNat * z.length ≤ 1000 * 1000 := Nat.mul_le_mul (by omega) hz
        have h4 : ((List.replicate k.toNat z.cps.toList).flatten.toArray).size = k.toNat * z.length := by simp [Str.length]
        show _ ≤ sizeLine
        have : sizeLine = 16777216 := rfl
        show ((List.replicate k.toNat z.cps.toList).flatten.toArray).size ≤ sizeLine
        omega
end Bs
namespace Bs
open PySem PySem.Spec PyProof.Rows L2
variable {X : Cx} {n k : Nat} {C f : Addr} {fd : FuncData} {ps : List Str}
/-! ### == and != by the class's own __eq__, both answers -/
/-- what the own == promises: D a y r says that the answer is r; the heap stays -/
def spCmp (D : Addr → V → Bool → Hp → Prop) : Sp := fun vs H Q _ => ∃ (a : Addr) (y : V) (r : Bool), vs = [.ref a, y] ∧ D a y r H ∧ Q (.bl r) H
structure OwnE (X : Cx) (n : Nat) (C : Addr) (D : Addr → V → Bool → Hp → Prop) : Prop where
  ex : ∃ (f : Addr) (fd : FuncData) (ps : List Str), FnOk X.prog X.w X.K X.mg X.base C8.CX0 n f fd ps (spCmp D) ∧ PySem.W.findIn X.K (.ref C) "__eq__" = some (some (.ref f)) ∧ PySem.W.isFn X.K (.ref f) = true ∧ Binds X.K fd ps []
  obj : PySem.W.mroIn X.K C (.type "object") = some true
  ne : PySem.W.findIn X.K (.ref C) "__ne__" = some (some (.builtin "object.__ne__"))
theorem own_call {A : Around} {pins : List (Addr × Obj)} {s : Shared} {σ : L2.St} {H : Hp} {a : Addr} {y : V} {v : Value} {r : Bool} {D : Addr → V → Bool → Hp → Prop} {E : Value → Shared → Prop} (F : FnOk X.prog X.w X.K X.mg X.base C8.CX0 n f fd ps (spCmp D)) (hb : Binds X.K fd ps [])
    (hr : Room n A) (hf : A.frames = X.A.frames) (I : Inv X pins σ H s) (ry : RelV y v) (d : D a y r H) : wpAny (model X.prog X.w) A (call (.ref f) [.ref a, v]) (fun u s' => u = .bool r ∧ Inv X pins σ H s') E s := by
  have hsp : spCmp D [.ref a, y] H (fun v H' => v = .bl r ∧ H' = H) C8.E0 := ⟨a, y, r, rfl, d, rfl, rfl⟩
  have e0 : Env0 X.prog X.w X.K X.mg X.base A X.stack s H := by
    have e := I.env0
    exact ⟨by rw [hf]; exact e.frames, e.mod, e.bs, e.bsz, e.funs, e.frf, e.hok, e.bare⟩
  have hl := F.len _ _ _ _ hsp
  have r2 : Vals [V.ref a, y] [Value.ref a, v] := .cons rfl (.cons ry .nil)
  refine wpAny_call (codeAny_mono (F.run A X.stack s H ⟨[.ref a, v], []⟩ [.ref a, v] [.ref a, y] _ C8.E0 hr e0 (by
    have := hb s [.ref a, v] I.kIn (by simpa using hl)
    simpa using this) r2 hsp) fun r s' hq => ?_)
  cases r with
  | error e => exact hq.elim
  | ok fl =>
    cases fl with
    | ret w =>
      obtain ⟨z, H', I', rz, ez, ex⟩ := I.after hq
      subst ez ex
      cases rz
      exact ⟨rfl, I'⟩
    | next => exact False.elim hq
    | brk => exact False.elim hq
    | cont => exact False.elim hq
def rEqO (K : PySem.W.Frag) (C : Addr) (D : Addr → V → Bool → Hp → Prop) (g : Bool → Bool) : R2 := fun x y H Q => ∃ (a dx : Addr) (fs : List (Str × V)) (t : Value) (r : Bool), x = .ref a ∧ H a = some (.ins C dx fs) ∧ TyX K H y t ∧ PySem.W.notFirst K C t = true ∧ D a y r H ∧ Q (.bl (g r)) H
theorem op_eqO {D : Addr → V → Bool → Hp → Prop} (O : OwnE X n C D) (hr : Room n X.A) : OpR X (compareOp .Eq) (rEqO X.K C D id) := by
  intro pins s σ H x y v u Q I rx ry h
  obtain ⟨a, dx, fs, t, r, rfl, ha, ty, nf, d, q⟩ := h
  obtain ⟨f, fd, ps, F, hs, hf, hb⟩ := O.ex
  cases rx
  obtain ⟨mA, J, _⟩ := ins_get I.hok ha
  obtain ⟨od, J, _⟩ := J.look
  obtain ⟨m, hF⟩ := I.fr
  obtain ⟨P, kx, hP, _⟩ := kit_of I ry ty
  refine PySem.W.cmp_ofEq (PySem.W.cmp_K (op := .Eq) (tb := t) hr.units0 hF I.ok.mod.kin J (kx.ty _ _ I.kIn hP) nf hs hf ?_)
  refine wpAny_mono (own_call F hb hr rfl I ry d) (fun u s' ⟨eu, I'⟩ => ?_) fun _ _ x => x
  subst eu
  exact ⟨.bl r, H, I', rfl, q⟩
theorem op_neO {D : Addr → V → Bool → Hp → Prop} (O : OwnE X n C D) (hr : Room (n + 1) X.A) : OpR X (compareOp .NotEq) (rEqO X.K C D not) := by
  intro pins s σ H x y v u Q I rx ry h
  obtain ⟨a, dx, fs, t, r, rfl, ha, ty, nf, d, q⟩ := h
  obtain ⟨f, fd, ps, F, hs, hf, hb⟩ := O.ex
  cases rx
  obtain ⟨mA, J, _⟩ := ins_get I.hok ha
  obtain ⟨od, J, _⟩ := J.look
  obtain ⟨P, kx, hP, _⟩ := kit_of I ry ty
  have K0 : X.K.In s.heap := I.kIn
  have tl : PySem.W.Looks (model X.prog X.w) s.heap (typeOf u) t := kx.ty _ _ K0 hP
  have ifb : ∀ (Q' : Option Value → Shared → Prop), (∀ s', Inv X pins σ H s' → Q' (some (.bool r)) s') → wpAny (model X.prog X.w) X.A.in1 (callSpecialIfBound? (.ref a) "__eq__" [u]) Q' X.xe s := fun Q' hq =>
    PySem.W.ifBound_K K0 J hs hf (wpAny_mono (own_call F hb hr.in1 rfl I ry d) (fun v s' ⟨e, I'⟩ => by subst e; exact hq s' I') fun _ _ x => x)
  have hu := hr.in1.units0
  have body : ∀ (Q' : Fin → Shared → Prop), (∀ s', Inv X pins σ H s' → Q' (.done (.ret (.bool (!r)))) s') → wpAny (model X.prog X.w) X.A.in1 (Builtin.«object.__ne__» ⟨[.ref a, u], []⟩) Q' X.xe s := fun Q' hq => by
    unfold Builtin.«object.__ne__»
    repeat (first | with_reducible refine wpAny_cRoomFor hu ?_ | with_reducible refine wpAny_bind (ifb _ fun s' I' => ?_) | wp_step)
    exact hq s' I'
  have ifn : ∀ (Q' : Option Value → Shared → Prop), (∀ s', Inv X pins σ H s' → Q' (some (.bool (!r))) s') → wpAny (model X.prog X.w) X.A (callSpecialIfBound? (.ref a) "__ne__" [u]) Q' X.xe s := fun Q' hq => by
    have cl : ∀ (Q2 : Value → Shared → Prop), (∀ s', Inv X pins σ H s' → Q2 (.bool (!r)) s') → wpAny (model X.prog X.w) X.A (call (.builtin "object.__ne__") [.ref a, u]) Q2 X.xe s := fun Q2 h2 =>
      wpAny_call (codeAny_call_builtin PySem.F.cmp_object.ne.plain PySem.F.cmpEntry_ne (PySem.W.check_slot PySem.F.cmpKind_ne PySem.F.cmpSplit_ne (J.type.andThen (PySem.W.looks_mroIn K0 O.obj)) (PySem.F.cmpArgs_ne _ _) (body _ fun s' I' => h2 s' I')))
    have fin : wpAny (model X.prog X.w) X.A (call (.builtin "object.__ne__") ([.ref a] ++ [u]) >>= fun v => pure (some v)) Q' X.xe s := wpAny_bind (cl _ fun s' I' => wpAny_pure (hq s' I'))
    simp only [callSpecialIfBound?, bindSpecialIfBound?]
    refine wpAny_holding (wpAny_bind (wpAny_bind (wpAny_bind (J.type.here ((PySem.W.looks_findIn K0 O.ne).here ?_)))))
    refine wpAny_bind (wpAny_askSetting (wpAny_ite ?_))
    split
    · exact wpAny_bind (wpAny_of_eq (PySem.F.cmp_object.ne.bind _) (wpAny_pure (by exact fin)))
    · exact wpAny_tryCatch (wpAny_bind (wpAny_of_eq (PySem.F.cmp_object.ne.bind _) (wpAny_pure (by exact fin))))
  have one : wpAny (model X.prog X.w) X.A (tryCompare (.ref a) "__ne__" u) (fun z s' => z = some (.bool (!r)) ∧ Inv X pins σ H s') X.xe s := by
    unfold tryCompare
    exact wpAny_bind (ifn _ fun s' I' => wpAny_pure ⟨rfl, I'⟩)
  refine PySem.W.cmp_ofNotEq ?_
  unfold richCompare
  simp only [oneThing_ref]
  refine wpAny_holding (wpAny_bind (wpAny_cRoomFor hr.units0 ?_))
  refine wpAny_bind (J.type.here (wpAny_bind (tl.here ?_)))
  split
  · rename_i z
    have e : PySem.W.subIn X.K t (.ref C) = some false := by
      rcases Bool.or_eq_true_iff.mp nf with e | e
      · rw [beq_iff_eq.mp e] at z; simp at z
      · exact beq_iff_eq.mp e
    refine wpAny_bind ((PySem.W.looks_subIn K0 e).here ?_)
    simp only [Bool.false_eq_true, if_false]
    refine wpAny_bind (wpAny_mono one (fun z s' hz => ?_) fun _ _ e => e)
    obtain ⟨rfl, I'⟩ := hz
    exact wpAny_pure ⟨.bl (!r), H, I', rfl, q⟩
  · refine wpAny_bind (wpAny_pure ?_)
    simp only [Bool.false_eq_true, if_false]
    refine wpAny_bind (wpAny_mono one (fun z s' hz => ?_) fun _ _ e => e)
    obtain ⟨rfl, I'⟩ := hz
    exact wpAny_pure ⟨.bl (!r), H, I', rfl, q⟩
end Bs
namespace Bs
open PySem PySem.Spec PyProof.Rows L2
variable {X : Cx} {n k : Nat} {C f : Addr} {fd : FuncData} {ps : List Str}
/-! ### max(ints, default=d) -/
def rMaxD (K : PySem.W.Frag) : List V → List V → Hp → VK → Prop := fun vs zs H Q => ∃ (a : Addr) (ns : List Int) (d : Int), vs = [.ref a] ∧ zs = [.int d] ∧ SqL K H a (ns.map V.int) ∧
  ∀ m : Int, (ns = [] → m = d) → (ns ≠ [] → m ∈ ns ∧ ∀ k ∈ ns, k ≤ m) → Q (.int m) H
def big (y : Int) (ys : List Int) : Int := ys.foldl (fun a z => if decide (a < z) = true then z else a) y
theorem big_ge : ∀ (ys : List Int) (y : Int), y ≤ big y ys ∧ (∀ k ∈ ys, k ≤ big y ys) ∧ (big y ys = y ∨ big y ys ∈ ys)
  | [], y => ⟨Int.le_refl y, (fun k h => by cases h), .inl rfl⟩
  | z :: r, y => by
    have e : big y (z :: r) = big (if decide (y < z) = true then z else y) r := rfl
    obtain ⟨h1, h2, h3⟩ := big_ge r (if decide (y < z) = true then z else y)
    rw [e]
    by_cases c : y < z
    · rw [if_pos (decide_eq_true c)] at h1 h2 h3 ⊢
      refine ⟨by omega, fun k hk => ?_, .inr ?_⟩
      · rcases List.mem_cons.mp hk with q | q
        · rw [q]; exact h1
        · exact h2 k q
      · rcases h3 with q | q
        · rw [q]; exact List.mem_cons_self
        · exact List.mem_cons_of_mem _ q
    · rw [if_neg (by simpa using c)] at h1 h2 h3 ⊢
      refine ⟨h1, fun k hk => ?_, ?_⟩
      · rcases List.mem_cons.mp hk with q | q
        · omega
        · exact h2 k q
      · rcases h3 with q | q
        · exact .inl q
        · exact .inr (List.mem_cons_of_mem _ q)
theorem cr_maxD (hc : X.calm = true) (hu : X.A.units + 1 < cLine) : CallRK X (.builtin "max") ["default"] (rMaxD X.K) := by
  intro pins s σ H xs zs us ws Q I r rz h
  obtain ⟨a, ns, d, rfl, rfl, hs, q⟩ := h
  obtain ⟨its, rv, hl, _⟩ := I.list hs
  obtain ⟨w', ew, rw'⟩ := vals1 rz
  subst ew
  obtain ⟨t, rfl⟩ := rw'
  rw [Vals.ref1 r]
  show wpAny _ _ (call (.builtin "max") [.ref a] [(Str.ofString "default", .int d t)]) _ _ _
  refine PySem.W.max_list_datum_default (α := Int) (xs := ns) (I.ok.hd hc) hl.isList (PySem.W.HoldAll.of_ints (by simpa using rv.ints)) (by show X.A.units + 1 + 0 < cLine; exact hu) (fun e h' tk hk => ?_) fun y ys i v h' tk e hi hv hk => ?_
  · exact ⟨.int d, H, I.kept hk, ⟨_, rfl⟩, q d (fun _ => rfl) fun z => absurd e z⟩
  · obtain ⟨t', rfl⟩ := PySem.W.int_of_holds hv
    have eb : PySem.W.maxOf y ys = big y ys := rfl
    rw [eb]
    obtain ⟨h1, h2, h3⟩ := big_ge ys y
    refine ⟨.int (big y ys), H, I.kept hk, ⟨_, rfl⟩, q _ (fun z => by rw [e] at z; cases z) fun _ => ?_⟩
    rw [e]
    refine ⟨?_, fun k hk => ?_⟩
    · rcases h3 with z | z
      · rw [z]; exact List.mem_cons_self
      · exact List.mem_cons_of_mem _ z
    · rcases List.mem_cons.mp hk with z | z
      · rw [z]; exact h1
      · exact h2 k z
/-! ### str(o) by the class's own __str__ -/
def spStr (D : Addr → Str → Hp → Prop) : Sp := fun vs H Q _ => ∃ (a : Addr) (x : Str), vs = [.ref a] ∧ D a x H ∧ Q (.str x) H
structure OwnS (X : Cx) (n : Nat) (C : Addr) (D : Addr → Str → Hp → Prop) : Prop where
  ex : ∃ (f : Addr) (fd : FuncData) (ps : List Str), FnOk X.prog X.w X.K X.mg X.base C8.CX0 n f fd ps (spStr D) ∧ PySem.W.findIn X.K (.ref C) "__str__" = some (some (.ref f)) ∧ PySem.W.isFn X.K (.ref f) = true ∧ Binds X.K fd ps []
theorem call_strO {D : Addr → Str → Hp → Prop} (O : OwnS X n C D) (hr : Room (n + 2) X.A) : CallR X (.type "str") (fun xs H Q => ∃ (a dx : Addr) (fs : List (Str × V)) (x : Str), xs = [.ref a] ∧ H a = some (.ins C dx fs) ∧ D a x H ∧ Q (.str x) H) := by
  intro pins s σ H xs us Q I r h
  obtain ⟨a, dx, fs, x, rfl, ha, d, q⟩ := h
  obtain ⟨f, fd, ps, F, hs, hf, hb⟩ := O.ex
  obtain ⟨u, rfl, ru⟩ := vals1 r
  cases ru
  obtain ⟨mA, J, _⟩ := ins_get I.hok ha
  obtain ⟨od, J, _⟩ := J.look
  have hsp : spStr D [.ref a] H (fun v H' => v = .str x ∧ H' = H) C8.E0 := ⟨a, x, rfl, d, rfl, rfl⟩
  have e0 : Env0 X.prog X.w X.K X.mg X.base X.A.in1.in1 X.stack s H := by
    have e := I.env0
    exact ⟨e.frames, e.mod, e.bs, e.bsz, e.funs, e.frf, e.hok, e.bare⟩
  have hl := F.len _ _ _ _ hsp
  have r2 : Vals [V.ref a] [Value.ref a] := .cons rfl .nil
  have hr2 : Room n X.A.in1.in1 := hr.in1.in1
  refine PySem.W.kso_call hr2.units0 I.kIn J hs hf (wpAny_call (codeAny_mono (F.run X.A.in1.in1 X.stack s H ⟨[.ref a], []⟩ [.ref a] [.ref a] _ C8.E0 hr2 e0 (by
    have := hb s [.ref a] I.kIn (by simpa using hl)
    simpa using this) r2 hsp) fun r s' hq => ?_))
  cases r with
  | error e => exact hq.elim
  | ok fl =>
    cases fl with
    | ret w =>
      obtain ⟨z, H', I', rz, ez, ex⟩ := I.after hq
      subst ez ex
      obtain ⟨t, rfl⟩ := rz
      exact ⟨.str x, _, I', ⟨t, rfl⟩, q⟩
    | next => exact False.elim hq
    | brk => exact False.elim hq
    | cont => exact False.elim hq
end Bs
namespace Bs
open PySem PySem.Spec PyProof.Rows L2
variable {X : Cx} {K : PySem.W.Frag}
/-! ### rules whose reading names the written part itself -/
theorem pe_fldK {e : Expr} {f : Str} {pos : Pos} {ta : TE} (hK : X.K = K) (he : PE X e ta) (hb : attributeBase e f X.env (eval e X.env) = eval e X.env) : PE X (.Attribute e f pos) (tFld K ta f) := by
  subst hK
  exact pe_fld he hb
theorem ix_listK (hK : X.K = K) : IxR X (rIxL K) := by subst hK; exact ix_list
theorem ix_tupK (hK : X.K = K) : IxR X (rIxT K) := by subst hK; exact ix_tup
def rLenSeq (K : PySem.W.Frag) : List V → Hp → VK → Prop := fun xs H Q => ∃ (p : Addr) (ys : List V), xs = [.ref p] ∧ (SqL K H p ys ∨ SqT K H p ys) ∧ Q (.int (ys.length : Nat)) H
theorem call_len_seqK (hK : X.K = K) : CallR X (.builtin "len") (rLenSeq K) := by subst hK; exact call_len_seq
theorem call_isiK' (hK : X.K = K) : CallR X (.builtin "isinstance") (rIsi K) := by subst hK; exact call_isi
theorem pi_listK {tg l : Expr} {tl : TE} (hK : X.K = K) (hl : PE X l tl) : PI X tg l (iList K tl) := by subst hK; exact pi_list hl
theorem pi_tupK {tg l : Expr} {tl : TE} (hK : X.K = K) (hl : PE X l tl) : PI X tg l (iTup K tl) := by subst hK; exact pi_tup hl
theorem op_in_seqK (hK : X.K = K) : OpR X (compareOp .In) (rIn K false) := by subst hK; exact op_in_seq
/-! ### calls with keywords alone -/
structure CalK (P : Program) (w : World) (K : PySem.W.Frag) (mg : Str → Option Value) (base : Heap) (k : Nat) (x : Str) (sp : Sp) (ks : List Str) (gV : List V → List V) : Prop where
  ex : ∃ (f : Addr) (fd : FuncData) (ps : List Str) (g : List Value → List Value → List Value), FnOk P w K mg base C8.CX0 k f fd ps sp ∧ mg x = some (.ref f) ∧ PySem.W.keepIn K (.ref f) = true ∧ KBn K fd ps 0 ks g (fun _ zs => gV zs)
structure MakK (P : Program) (w : World) (K : PySem.W.Frag) (mg : Str → Option Value) (base : Heap) (k : Nat) (x : Str) (C : Addr) (sp : Sp) (ks : List Str) : Prop where
  ex : ∃ (f : Addr) (fd : FuncData) (ps : List Str) (g : List Value → List Value → List Value), Mk K C f ∧ FnOk P w K mg base C8.CX0 k f fd ps sp ∧ mg x = some (.ref C) ∧ KBn K fd ps 1 ks g (fun vs zs => vs ++ zs)
section
variable {k j : Nat} {x : Str} {sp : Sp} {ks : List Str} {gV : List V → List V} {p pos : Pos} {kws : List Keyword} {tk : TA} {C : Addr}
theorem pe_k (c : CalK X.prog X.w X.K X.mg X.base k x sp ks gV) (hr : Room j X.A) (hk : k ≤ j) (hg : Gl X x) (hkw : PK X kws tk)
    (hall : (backToKw pos (keywordEach kws X.env)).all (·.1.isSome) = true := by rfl) (hks : (backToKw pos (keywordEach kws X.env)).filterMap (·.1) = ks := by rfl) (hdb : (x == ("__debug__" : Str)) = false := by decide)
    (hpl : ((backTo pos (starEach [] X.env)).any (·.1) || (backToKw pos (keywordEach kws X.env)).any (·.1.isNone)) = false := by rfl) :
    PE X (.Call (.Name x p) [] kws pos) (fun σ H Q => tk σ H fun zs H1 => zs.length = ks.length ∧ sp (gV zs) H1 Q C8.E0) := by
  obtain ⟨f, fd, ps, g, F, hm, kp, hb⟩ := c.ex
  refine ⟨fun pins s σ H Q I h => ?_⟩
  refine wpAny_Call_Name_kw (ld_glob I hg hm ?_ hdb)
  refine PySem.W.callWith_KW0 (h₀ := X.base) I.ok.mod.kin kp hall ?_ hpl
  refine thn (hkw.run pos pins s σ H _ I h) fun ws s2 ⟨zs, H2, I2, rz, l2, q2⟩ => ⟨I2.kIn, ?_⟩
  rw [hks]
  exact run_fnN (us := []) (vs := []) F (hr.mono hk) hb C8.pass0 I2 .nil rz rfl l2 q2
theorem pe_mkk (c : MakK X.prog X.w X.K X.mg X.base k x C sp ks) (hr : Room j X.A) (hk : k + 1 ≤ j) (hg : Gl X x) (hkw : PK X kws tk)
    (hall : (backToKw pos (keywordEach kws X.env)).all (·.1.isSome) = true := by rfl) (hks : (backToKw pos (keywordEach kws X.env)).filterMap (·.1) = ks := by rfl) (hdb : (x == ("__debug__" : Str)) = false := by decide)
    (hpl : ((backTo pos (starEach [] X.env)).any (·.1) || (backToKw pos (keywordEach kws X.env)).any (·.1.isNone)) = false := by rfl) :
    PE X (.Call (.Name x p) [] kws pos) (tMakeK C 0 ks.length sp (fun vs zs => vs ++ zs) C8.E0 tNil tk) := by
  obtain ⟨f, fd, ps, g, M, F, hm, hb⟩ := c.ex
  exact pe_makeK0 M F (hr.mono hk) hg hm hb C8.pass0 hkw hall hks hdb hpl
end
end Bs
namespace Bs
open PySem PySem.Spec PyProof.Rows L2
/-! ### zip(list, tuple), zip(list, list, list) -/
section mk
variable {prog : Program} {w : World} {A : Around} {E : Value → Shared → Prop} {s : Shared}
abbrev itO (T : String) (l : Addr) : Obj := { cls := .type T, data := .fields #[.ref l, .int 0 0] }
abbrev tuO (vs : Array Value) : Obj := { cls := .type "tuple", data := .seq vs }
abbrev ziO (a b : Addr) : Obj := { cls := .type "zip", data := .fields #[.none, .bool false, .bool false, .ref a, .ref b] }
abbrev zm2 (h : Heap) (l t : Addr) : Heap := (h.push (itO "list_iterator" l)).push (itO "tuple_iterator" t)
abbrev zm3 (h : Heap) (l t : Addr) : Heap := (zm2 h l t).push (tuO #[.ref h.objs.size, .ref (h.push (itO "list_iterator" l)).objs.size])
abbrev zm4 (h : Heap) (l t : Addr) : Heap := (zm3 h l t).push (tuO #[.none, .none])
abbrev zm5 (h : Heap) (l t : Addr) : Heap := (zm4 h l t).push (ziO (zm2 h l t).objs.size (zm3 h l t).objs.size)
theorem meets_zm (l t : Addr) (xs ys : Array Value) : Meets (Builtin.«zip.__new__» ⟨[.type "zip", .ref l, .ref t], []⟩) (fun _ R s => s.heap.IsList l xs ∧ s.heap.IsTuple t ys ∧ R (.ok (.ret (.ref (zm4 s.heap l t).objs.size))) { s with heap := zm5 s.heap l t }) :=
  .of_wp fun prog w A R s ⟨hl, ht, h⟩ => by
    obtain ⟨hp, g, d, tk, os⟩ := s
    have hsub := sub_zip
    have a1 : Heap.IsList (Shared.heap ⟨hp, g, d, tk, os⟩) l xs := hl
    have a2 : Heap.IsTuple (Shared.heap ⟨hp.push (itO "list_iterator" l), g, d, tk, os⟩) t ys := Heap.IsTuple.push ht _
    wp_walk using wpAny_pyIter_list a1, wpAny_pyIter_tuple a2
    exact ⟨_, rfl, h⟩
theorem call_zm {l t : Addr} {xs ys : Array Value} {Q : Value → Shared → Prop} (hl : s.heap.IsList l xs) (ht : s.heap.IsTuple t ys)
    (h : ∀ h' : Heap, IsZip h' (s.heap.objs.size + 4) (s.heap.objs.size + 2) (s.heap.objs.size + 3) .none → IsTupOf2 h' (s.heap.objs.size + 2) (.ref s.heap.objs.size) (.ref (s.heap.objs.size + 1)) → IsTupOf2 h' (s.heap.objs.size + 3) .none .none →
      h'.IsListIter s.heap.objs.size l 0 → h'.IsTupleIter (s.heap.objs.size + 1) t 0 → (∀ c o, s.heap.get? c = some o → h'.get? c = some o) → Q (.ref (s.heap.objs.size + 4)) { s with heap := h' }) : wpAny (model prog w) A (call (.type "zip") [.ref l, .ref t]) Q E s := by
  refine callType_new F.called_zip (by decide) (F.typeCall_zip_2 _ _) (F.newCall_zip_2 _ _) (fun obj => F.args_object_init_3 obj _ _) F.entry_zip_new (meets_zm l t xs ys) ⟨hl, ht, ?_⟩
  have e1 : (s.heap.push (itO "list_iterator" l)).objs.size = s.heap.objs.size + 1 := Heap.size_push ..
  have e2 : (zm2 s.heap l t).objs.size = s.heap.objs.size + 2 := by rw [Heap.size_push, e1]
  have e3 : (zm3 s.heap l t).objs.size = s.heap.objs.size + 3 := by rw [Heap.size_push, e2]
  have e4 : (zm4 s.heap l t).objs.size = s.heap.objs.size + 4 := by rw [Heap.size_push, e3]
  have g5 : (zm5 s.heap l t).get? (zm4 s.heap l t).objs.size = some _ := Heap.get?_push_size _ rfl
  have g4 : (zm5 s.heap l t).get? (zm3 s.heap l t).objs.size = some _ := Heap.get?_push_of_some _ (Heap.get?_push_size _ rfl)
  have g3 : (zm5 s.heap l t).get? (zm2 s.heap l t).objs.size = some _ := Heap.get?_push_of_some _ (Heap.get?_push_of_some _ (Heap.get?_push_size _ rfl))
  have g2 : (zm5 s.heap l t).get? (s.heap.push (itO "list_iterator" l)).objs.size = some _ := Heap.get?_push_of_some _ (Heap.get?_push_of_some _ (Heap.get?_push_of_some _ (Heap.get?_push_size _ rfl)))
  have g1 : (zm5 s.heap l t).get? s.heap.objs.size = some _ := Heap.get?_push_of_some _ (Heap.get?_push_of_some _ (Heap.get?_push_of_some _ (Heap.get?_push_of_some _ (Heap.get?_push_size _ rfl))))
  rw [e4] at g5
  rw [e3] at g4
  rw [e2] at g3
  rw [e1] at g2
  show _ ∧ _
  rw [e4]
  refine ⟨⟨_, g5, rfl⟩, h _ ?_ ?_ g4 ⟨_, g1, rfl, rfl⟩ ⟨_, g2, rfl, rfl⟩ fun c o x => Heap.get?_push_of_some _ (Heap.get?_push_of_some _ (Heap.get?_push_of_some _ (Heap.get?_push_of_some _ (Heap.get?_push_of_some _ x))))⟩
  · rw [e2, e3] at g5; exact g5
  · rw [e1] at g3; exact g3
theorem typeCall_z3 (a b c : Value) : checkTypeCall "zip" ⟨[a, b, c], []⟩ = pure () := by kernel_rfl
theorem newCall_z3 (a b c : Value) : checkBuiltinCall "zip.__new__" ⟨[.type "zip", a, b, c], []⟩ = pure () := by kernel_rfl
theorem argsInit4 (a b c d : Value) : argsOk "object.__init__" ⟨[a, b, c, d], []⟩ := by
  unfold argsOk
  rw [signature?_of (id := "object.__init__") (n := ['_', '_', 't', 'i', 'n', 'i', '_', '_']) (o := ['t', 'c', 'e', 'j', 'b', 'o']) (by kernel_rfl) F.owner_object]
  kernel_rfl
abbrev zt1 (h : Heap) (a : Addr) : Heap := h.push (itO "list_iterator" a)
abbrev zt2 (h : Heap) (a b : Addr) : Heap := (zt1 h a).push (itO "list_iterator" b)
abbrev zt3 (h : Heap) (a b c : Addr) : Heap := (zt2 h a b).push (itO "list_iterator" c)
abbrev zt4 (h : Heap) (a b c : Addr) : Heap := (zt3 h a b c).push (tuO #[.ref h.objs.size, .ref (zt1 h a).objs.size, .ref (zt2 h a b).objs.size])
abbrev zt5 (h : Heap) (a b c : Addr) : Heap := (zt4 h a b c).push (tuO #[.none, .none, .none])
abbrev zt6 (h : Heap) (a b c : Addr) : Heap := (zt5 h a b c).push (ziO (zt3 h a b c).objs.size (zt4 h a b c).objs.size)
theorem meets_zt (a b c : Addr) (xs ys zs : Array Value) : Meets (Builtin.«zip.__new__» ⟨[.type "zip", .ref a, .ref b, .ref c], []⟩) (fun _ R s => s.heap.IsList a xs ∧ s.heap.IsList b ys ∧ s.heap.IsList c zs ∧ R (.ok (.ret (.ref (zt5 s.heap a b c).objs.size))) { s with heap := zt6 s.heap a b c }) :=
  .of_wp fun prog w A R s ⟨ha, hb, hc, h⟩ => by
    obtain ⟨hp, g, d, tk, os⟩ := s
    have hsub := sub_zip
    have a1 : Heap.IsList (Shared.heap ⟨hp, g, d, tk, os⟩) a xs := ha
    have a2 : Heap.IsList (Shared.heap ⟨zt1 hp a, g, d, tk, os⟩) b ys := Heap.IsList.push hb _
    have a3 : Heap.IsList (Shared.heap ⟨zt2 hp a b, g, d, tk, os⟩) c zs := Heap.IsList.push (Heap.IsList.push hc _) _
    wp_walk using wpAny_pyIter_list a1, wpAny_pyIter_list a2, wpAny_pyIter_list a3
    exact ⟨_, rfl, h⟩
theorem call_zt {a b c : Addr} {xs ys zs : Array Value} {Q : Value → Shared → Prop} (ha : s.heap.IsList a xs) (hb : s.heap.IsList b ys) (hc : s.heap.IsList c zs)
    (h : ∀ h' : Heap, IsZip h' (s.heap.objs.size + 5) (s.heap.objs.size + 3) (s.heap.objs.size + 4) .none → IsTupOf3 h' (s.heap.objs.size + 3) (.ref s.heap.objs.size) (.ref (s.heap.objs.size + 1)) (.ref (s.heap.objs.size + 2)) → IsTupOf3 h' (s.heap.objs.size + 4) .none .none .none →
      h'.IsListIter s.heap.objs.size a 0 → h'.IsListIter (s.heap.objs.size + 1) b 0 → h'.IsListIter (s.heap.objs.size + 2) c 0 → (∀ c o, s.heap.get? c = some o → h'.get? c = some o) → Q (.ref (s.heap.objs.size + 5)) { s with heap := h' }) : wpAny (model prog w) A (call (.type "zip") [.ref a, .ref b, .ref c]) Q E s := by
  refine callType_new F.called_zip (by decide) (typeCall_z3 _ _ _) (newCall_z3 _ _ _) (fun obj => argsInit4 obj _ _ _) F.entry_zip_new (meets_zt a b c xs ys zs) ⟨ha, hb, hc, ?_⟩
  have e1 : (zt1 s.heap a).objs.size = s.heap.objs.size + 1 := Heap.size_push ..
  have e2 : (zt2 s.heap a b).objs.size = s.heap.objs.size + 2 := by rw [Heap.size_push, e1]
  have e3 : (zt3 s.heap a b c).objs.size = s.heap.objs.size + 3 := by rw [Heap.size_push, e2]
  have e4 : (zt4 s.heap a b c).objs.size = s.heap.objs.size + 4 := by rw [Heap.size_push, e3]
  have e5 : (zt5 s.heap a b c).objs.size = s.heap.objs.size + 5 := by rw [Heap.size_push, e4]
  have g6 : (zt6 s.heap a b c).get? (zt5 s.heap a b c).objs.size = some _ := Heap.get?_push_size _ rfl
  have g5 : (zt6 s.heap a b c).get? (zt4 s.heap a b c).objs.size = some _ := Heap.get?_push_of_some _ (Heap.get?_push_size _ rfl)
  have g4 : (zt6 s.heap a b c).get? (zt3 s.heap a b c).objs.size = some _ := Heap.get?_push_of_some _ (Heap.get?_push_of_some _ (Heap.get?_push_size _ rfl))
  have g3 : (zt6 s.heap a b c).get? (zt2 s.heap a b).objs.size = some _ := Heap.get?_push_of_some _ (Heap.get?_push_of_some _ (Heap.get?_push_of_some _ (Heap.get?_push_size _ rfl)))
  have g2 : (zt6 s.heap a b c).get? (zt1 s.heap a).objs.size = some _ := Heap.get?_push_of_some _ (Heap.get?_push_of_some _ (Heap.get?_push_of_some _ (Heap.get?_push_of_some _ (Heap.get?_push_size _ rfl))))
  have g1 : (zt6 s.heap a b c).get? s.heap.objs.size = some _ := Heap.get?_push_of_some _ (Heap.get?_push_of_some _ (Heap.get?_push_of_some _ (Heap.get?_push_of_some _ (Heap.get?_push_of_some _ (Heap.get?_push_size _ rfl)))))
  rw [e5] at g6
  rw [e4] at g5
  rw [e3] at g4
  rw [e2] at g3
  rw [e1] at g2
  show _ ∧ _
  rw [e5]
  refine ⟨⟨_, g6, rfl⟩, h _ ?_ ?_ g5 ⟨_, g1, rfl, rfl⟩ ⟨_, g2, rfl, rfl⟩ ⟨_, g3, rfl, rfl⟩ fun c o x => Heap.get?_push_of_some _ (Heap.get?_push_of_some _ (Heap.get?_push_of_some _ (Heap.get?_push_of_some _ (Heap.get?_push_of_some _ (Heap.get?_push_of_some _ x)))))⟩
  · rw [e3, e4] at g6; exact g6
  · rw [e1, e2] at g4; exact g4
end mk
end Bs
namespace Bs
open PySem PySem.Spec PyProof.Rows L2
def ItM (K : PySem.W.Frag) (a b : Addr) : It :=
  ⟨fun i H => ∃ (xs ys : List V) (x y : V), SqL K H a xs ∧ SqT K H b ys ∧ xs[i]? = some x ∧ ys[i]? = some y,
    fun i H v H' => ∃ (T : Addr) (x y : V), v = .ref T ∧ H T = none ∧ H' = upd H T (.tup [x, y]) ∧ (∀ xs, SqL K H a xs → xs[i]? = some x) ∧ ∀ ys, SqT K H b ys → ys[i]? = some y,
    fun i H => ∃ xs ys : List V, SqL K H a xs ∧ SqT K H b ys ∧ i ≤ xs.length ∧ i ≤ ys.length ∧ (i = xs.length ∨ i = ys.length)⟩
theorem turn_m {P : Program} {w : World} {K : PySem.W.Frag} {elts : List Expr} {kk : Nat} {tpos : Pos} {a b z TI TO i1 i2 : Addr} (D : ZipSep2 z TI TO i1 i2 [i1, a] [i2, b]) (na : a ≠ i1) (nb : b ≠ i2) :
    Turn P w K (.Tuple elts kk tpos) (ItM K a b) [z, TI, TO, i1, i2] z (fun i h => IsZip h z TI TO .none ∧ IsTupOf2 h TI (.ref i1) (.ref i2) ∧ (∃ x y, IsTupOf2 h TO x y) ∧ h.IsListIter i1 a i ∧ h.IsTupleIter i2 b i) where
  mem := List.mem_cons_self
  obj := fun i h st c hc => by
    obtain ⟨hz, hTI, ⟨x, y, hTO⟩, ⟨o1, e1, _, d1⟩, ⟨o2, e2, _, d2⟩⟩ := st
    simp only [List.mem_cons, List.mem_nil_iff, or_false] at hc
    rcases hc with q | q | q | q | q
    · subst q; exact ⟨_, hz, by intro v e; cases e⟩
    · subst q; exact ⟨_, hTI, by intro v e; cases e⟩
    · subst q; exact ⟨_, hTO, by intro v e; cases e⟩
    · exact ⟨o1, q ▸ e1, fun v q => by rw [d1] at q; cases q⟩
    · exact ⟨o2, q ▸ e2, fun v q => by rw [d2] at q; cases q⟩
  keep := fun i h h' ⟨hz, hTI, ⟨x, y, hTO⟩, h1, h2⟩ k => ⟨k z (by simp) _ hz, k TI (by simp) _ hTI, ⟨x, y, k TO (by simp) _ hTO⟩, h1.at fun o q => k i1 (by simp) o q, h2.at fun o q => k i2 (by simp) o q⟩
  item := by
    intro X hP hw hK hc i pins s σ H E I hf ⟨hz, hTI, ⟨x0, y0, hTO⟩, h1, h2⟩ ⟨xs, ys, x, y, hqx, hqy, hx, hy⟩
    subst hP hw hK
    obtain ⟨its, rv, p, _⟩ := I.list hqx
    obtain ⟨its2, rv2, p2, _⟩ := I.tuple hqy
    obtain ⟨u, hu, ru⟩ := rv.get hx
    obtain ⟨u2, hu2, ru2⟩ := rv2.get hy
    have hh := I.ok.hd hc
    have zl : z < s.heap.objs.size := Heap.lt_size hz
    have l1 := (List.getElem?_eq_some_iff.mp hu).1
    have l2 := (List.getElem?_eq_some_iff.mp hu2).1
    refine wpAny_pyNext_zipD2_item (i := i) D (Draws.list (A := X.A.in1) hh i1 a na its.toArray) (Draws.tuple (A := X.A.in1) hh i2 b nb its2.toArray) hz hTI hTO ⟨h1, p.isList⟩ ⟨h2, p2⟩ (by rw [List.size_toArray]; exact l1) (by rw [List.size_toArray]; exact l2) fun x1 x2 h' tk q1 q2 z' TO' s1' s2' hT _ hk => ?_
    have e1 : x1 = u := by rw [← Array.getElem?_toList] at q1; exact Option.some.inj (q1.symm.trans hu)
    have e2 : x2 = u2 := by rw [← Array.getElem?_toList] at q2; exact Option.some.inj (q2.symm.trans hu2)
    subst e1 e2
    refine ⟨_, rfl, wpAny_letOwnedTupleGo_zip (s := { s with heap := h', toks := tk }) z' fun h'' z'' sb => ?_⟩
    have hT2 : h''.get? s.heap.objs.size = some { cls := .type "tuple", data := .seq #[x1, x2] } := (sb.2 _ (Nat.ne_of_gt zl)).trans hT
    have new : ObjOk X.prog X.w (upd H s.heap.objs.size (.tup [x, y])) h'' s.heap.objs.size (.tup [x, y]) := ⟨by show 2 ≤ sizeLine; decide, [x1, x2], .cons ru (.cons ru2 .nil), ⟨_, hT2, rfl, _, rfl⟩⟩
    have I1 : Inv X pins σ (upd H s.heap.objs.size (.tup [x, y])) { s with heap := h'', toks := tk } :=
      I.turnedNew (t' := tk) (ch := [z, TI, TO, i1, i2]) (fun c o hb q => by
        simp only [List.mem_cons, List.mem_nil_iff, or_false, not_or] at hb
        exact (sb.2 c hb.1).trans (hk c o hb.1 hb.2.2.1 hb.2.2.2.1 hb.2.2.2.2 q)) hf (Nat.le_refl _) new
    refine ⟨.ref s.heap.objs.size, _, I1, rfl, ⟨_, x, y, rfl, I.hok.fresh (Nat.le_refl _), rfl, fun l hl => by rw [I.list_inj hl hqx]; exact hx, fun l hl => by rw [I.tuple_inj hl hqy]; exact hy⟩, ⟨z'', ?_, ⟨x1, x2, ?_⟩, ?_, ?_⟩, fun c hcm => ?_⟩
    · exact (sb.2 _ D.TIz).trans (hk _ _ D.TIz D.TITO D.TIi1 D.TIi2 hTI)
    · exact (sb.2 _ D.TOz).trans TO'
    · exact s1'.1.at fun o q => (sb.2 _ D.zi1.symm).trans q
    · exact s2'.1.at fun o q => (sb.2 _ D.zi2.symm).trans q
    · have hlt : c < s.heap.objs.size := by
        simp only [List.mem_cons, List.mem_nil_iff, or_false] at hcm
        rcases hcm with q | q | q | q | q
        · exact q ▸ zl
        · exact q ▸ Heap.lt_size hTI
        · exact q ▸ Heap.lt_size hTO
        · obtain ⟨_, e1, _⟩ := h1
          exact q ▸ Heap.lt_size e1
        · obtain ⟨_, e2, _⟩ := h2
          exact q ▸ Heap.lt_size e2
      rw [upd_ne (Nat.ne_of_lt hlt)]
      exact (hf c hcm).1
  done := by
    intro X hP hw hK hc i pins s σ H E I hf ⟨hz, hTI, ⟨x0, y0, hTO⟩, h1, h2⟩ ⟨xs, ys, hqx, hqy, m1, m2, hend⟩
    subst hP hw hK
    obtain ⟨its, rv, p, _⟩ := I.list hqx
    obtain ⟨its2, rv2, p2, _⟩ := I.tuple hqy
    have hh := I.ok.hd hc
    have l1 := rv.length
    have l2 := rv2.length
    exact wpAny_pyNext_zipD2_end (i := i) D (Draws.list (A := X.A.in1) hh i1 a na its.toArray) (Draws.tuple (A := X.A.in1) hh i2 b nb its2.toArray) hz hTI hTO ⟨h1, p.isList⟩ ⟨h2, p2⟩ (by rw [List.size_toArray]; omega) (by rw [List.size_toArray]; omega) (by rw [List.size_toArray, List.size_toArray]; omega)
      fun h' tk hk => ⟨rfl, I.turnedL (t' := tk) (ch := [z, TI, TO, i1, i2]) (fun c o hb q => by
        simp only [List.mem_cons, List.mem_nil_iff, or_false, not_or] at hb
        exact hk c o hb.1 hb.2.2.1 hb.2.2.2.1 hb.2.2.2.2 q) hf⟩
  self := fun A i s Q E st h => wpAny_pyIter_zip st.1 h
theorem pg_tupK {X : Cx} {K : PySem.W.Frag} {es : List Expr} {k n : Nat} {pos : Pos} {t : TGs} (hK : X.K = K) (hc : X.calm = true) (h : PGs X es t)
    (hn : (assignEach es X.env).length = n := by rfl) (hst : (assignEach es X.env).findIdx? (·.1) = none := by rfl) : PG X (.Tuple es k pos) (gTup K n t) := by
  subst hK
  exact pg_tup hc h hn hst
theorem nin2 {x a b : Nat} (h1 : x ≠ a) (h2 : x ≠ b) : x ∉ [a, b] := by
  simp only [List.mem_cons, List.mem_nil_iff, or_false, not_or]
  exact ⟨h1, h2⟩
theorem sep_m (I a b : Nat) (h1 : a < I) (h2 : b < I) : ZipSep2 (I + 4) (I + 2) (I + 3) I (I + 1) [I, a] [I + 1, b] where
  TIz := Nat.ne_of_lt (by omega)
  TOz := Nat.ne_of_lt (by omega)
  TITO := Nat.ne_of_lt (by omega)
  TIi1 := Nat.ne_of_gt (by omega)
  mem1 := List.mem_cons_self
  zf1 := nin2 (by omega) (by omega)
  Tf1 := nin2 (by omega) (by omega)
  TIi2 := Nat.ne_of_gt (by omega)
  mem2 := List.mem_cons_self
  zf2 := nin2 (by omega) (by omega)
  Tf2 := nin2 (by omega) (by omega)
  sep1_2 := nin2 (by omega) (by omega)
  sep2_1 := nin2 (by omega) (by omega)
theorem sep_t (I a b c : Nat) (h1 : a < I) (h2 : b < I) (h3 : c < I) : ZipSep3 (I + 5) (I + 3) (I + 4) I (I + 1) (I + 2) [I, a] [I + 1, b] [I + 2, c] := by
  constructor <;> first | exact List.mem_cons_self | exact nin2 (by omega) (by omega) | exact Nat.ne_of_lt (by omega) | exact Nat.ne_of_gt (by omega)
theorem ne_add (I b k : Nat) (h : b < I) : b ≠ I + k := by omega
theorem le_one {I c : Nat} (h : c = I + 4 ∨ c = I + 2 ∨ c = I + 3 ∨ c = I ∨ c = I + 1) : I ≤ c := by omega
theorem le_two {I c : Nat} (h : c = I + 5 ∨ c = I + 3 ∨ c = I + 4 ∨ c = I ∨ c = I + 1 ∨ c = I + 2) : I ≤ c := by omega
def iZipM (K : PySem.W.Frag) (ta : TA) : TI := fun σ H R => ta σ H fun vs H1 => ∃ (a b : Addr) (xs ys : List V), vs = [.ref a, .ref b] ∧ SqL K H1 a xs ∧ SqT K H1 b ys ∧ R (ItM K a b) H1
theorem pi_zipM {X : Cx} {K : PySem.W.Frag} {e e2 : Expr} {ta : TA} {p pos tpos : Pos} {elts : List Expr} {kk : Nat} (hK : X.K = K) (hg : Gl X "zip") (hm : X.mg "zip" = none) (ha : PA X [e, e2] ta)
    (hs : starEach [e, e2] X.env = (false, eval e X.env) :: starEach [e2] X.env := by rfl) (hpl : (backTo pos (starEach [e2] X.env)).any (·.1) = false := by rfl) :
    PI X (.Tuple elts kk tpos) (.Call (.Name "zip" p) [e, e2] [] pos) (iZipM K ta) := by
  subst hK
  refine ⟨fun pins s σ H R I h => ?_⟩
  refine Call_ (ld_blt I hg hm PyProof.Rows.boot_zip (PyProof.Rows.callWith_type1 (thn (ha.run pos pins s σ H _ I h) fun us s1 ⟨vs, H1, I1, r1, a, b, xs, ys, ex, hqx, hqy, q⟩ => ?_) hs hpl))
  subst ex
  obtain ⟨u1, u2, rfl, r, r'⟩ := vals2 r1
  cases r
  cases r'
  obtain ⟨its, rv, p1, _⟩ := I1.list hqx
  obtain ⟨its2, rv2, p2, _⟩ := I1.tuple hqy
  have la : a < s1.heap.objs.size := p1.lt
  have lb : b < s1.heap.objs.size := by obtain ⟨o, e, _⟩ := p2; exact Heap.lt_size e
  refine call_zm p1.isList p2 fun h' hz hTI hTO h1 h2 hk => wpAny_pyIter_zip hz ?_
  have I2 : Inv X pins σ H1 { s1 with heap := h' } := I1.kept (t' := s1.toks) hk
  have D := sep_m s1.heap.objs.size a b la lb
  refine ⟨s1.heap.objs.size + 4, [s1.heap.objs.size + 4, s1.heap.objs.size + 2, s1.heap.objs.size + 3, s1.heap.objs.size, s1.heap.objs.size + 1], _, _, H1, rfl, I2, turn_m D (Nat.ne_of_lt la) (ne_add _ _ 1 lb), ⟨hz, hTI, ⟨_, _, hTO⟩, h1, h2⟩, fun c hcm => ?_, q⟩
  have hle : s1.heap.objs.size ≤ c := by
    simp only [List.mem_cons, List.mem_nil_iff, or_false] at hcm
    exact le_one hcm
  exact I1.fpOk hle (I1.hok.fresh hle)
/-- a comprehension over such a zip, of one length -/
theorem lc_zipM {K : PySem.W.Frag} {a b : Addr} {xs ys : List V} {g : TG} {tt : TT} {te : TE} {vs : List Nat} {σ : L2.St} {H1 : Hp} {D : Addr} {Qd : Hp → Prop} (hl : xs.length = ys.length) (Pv : Nat → Hp → Prop) (h0 : Pv 0 (upd H1 D (.lst [])))
    (hq : ∀ i H, Pv i H → SqL K H a xs ∧ SqT K H b ys)
    (hs : ∀ i x y T H, xs[i]? = some x → ys[i]? = some y → Pv i H → H T = none → g (.ref T) (wipe σ vs) (upd H T (.tup [x, y])) fun σ2 H2 => wipe σ2 vs = wipe σ vs ∧ tt σ2 H2 fun b H3 =>
      if b = true then te σ2 H3 fun y H4 => ∃ acc, H4 D = some (.lst acc) ∧ acc.length < sizeLine ∧ Pv (i + 1) (upd H4 D (.lst (acc ++ [y]))) else Pv (i + 1) H3) (hd : ∀ H, Pv xs.length H → Qd H) :
    ∃ W : Nat → Nat → Hp → Prop, (∃ m, W 0 m (upd H1 D (.lst []))) ∧ ∀ i m H, W i m H →
      ((ItM K a b).stop i H ∧ Qd H) ∨ ((ItM K a b).go i H ∧ ∃ Nx : Hp → Prop, (∀ H', Nx H' → ∃ m', m' < m ∧ W (i + 1) m' H') ∧ ∀ x H', (ItM K a b).yld i H x H' → g x (wipe σ vs) H' fun σ2 H2 => wipe σ2 vs = wipe σ vs ∧ tt σ2 H2 fun b H3 =>
        if b = true then te σ2 H3 fun y H4 => ∃ acc, H4 D = some (.lst acc) ∧ acc.length < sizeLine ∧ Nx (upd H4 D (.lst (acc ++ [y]))) else Nx H3) := by
  refine ⟨fun i m H => Pv i H ∧ i + m = xs.length, ⟨xs.length, h0, Nat.zero_add _⟩, fun i m H ⟨hp, em⟩ => ?_⟩
  obtain ⟨qx, qy⟩ := hq i H hp
  cases m with
  | zero =>
    have e : i = xs.length := em
    subst e
    exact .inl ⟨⟨xs, ys, qx, qy, Nat.le_refl _, by omega, .inl rfl⟩, hd H hp⟩
  | succ m =>
    have li : i < xs.length := by omega
    have hx := List.getElem?_eq_getElem li
    have hy := List.getElem?_eq_getElem (l := ys) (i := i) (by omega)
    refine .inr ⟨⟨xs, ys, _, _, qx, qy, hx, hy⟩, Pv (i + 1), fun H' h' => ⟨m, Nat.lt_succ_self m, h', by omega⟩, ?_⟩
    rintro _ _ ⟨T, x, y, rfl, hT, rfl, ex, ey⟩
    exact hs i x y T H (ex xs qx) (ey ys qy) hp hT
/-- a comprehension over zip of two lists of one length -/
theorem lc_zipL {K : PySem.W.Frag} {a b : Addr} {xs ys : List V} {g : TG} {tt : TT} {te : TE} {vs : List Nat} {σ : L2.St} {H1 : Hp} {D : Addr} {Qd : Hp → Prop} (hl : xs.length = ys.length) (Pv : Nat → Hp → Prop) (h0 : Pv 0 (upd H1 D (.lst [])))
    (hq : ∀ i H, Pv i H → SqL K H a xs ∧ SqL K H b ys)
    (hs : ∀ i x y T H, xs[i]? = some x → ys[i]? = some y → Pv i H → H T = none → g (.ref T) (wipe σ vs) (upd H T (.tup [x, y])) fun σ2 H2 => wipe σ2 vs = wipe σ vs ∧ tt σ2 H2 fun b H3 =>
      if b = true then te σ2 H3 fun y H4 => ∃ acc, H4 D = some (.lst acc) ∧ acc.length < sizeLine ∧ Pv (i + 1) (upd H4 D (.lst (acc ++ [y]))) else Pv (i + 1) H3) (hd : ∀ H, Pv xs.length H → Qd H) :
    ∃ W : Nat → Nat → Hp → Prop, (∃ m, W 0 m (upd H1 D (.lst []))) ∧ ∀ i m H, W i m H →
      ((Itz K a b).stop i H ∧ Qd H) ∨ ((Itz K a b).go i H ∧ ∃ Nx : Hp → Prop, (∀ H', Nx H' → ∃ m', m' < m ∧ W (i + 1) m' H') ∧ ∀ x H', (Itz K a b).yld i H x H' → g x (wipe σ vs) H' fun σ2 H2 => wipe σ2 vs = wipe σ vs ∧ tt σ2 H2 fun b H3 =>
        if b = true then te σ2 H3 fun y H4 => ∃ acc, H4 D = some (.lst acc) ∧ acc.length < sizeLine ∧ Nx (upd H4 D (.lst (acc ++ [y]))) else Nx H3) := by
  refine ⟨fun i m H => Pv i H ∧ i + m = xs.length, ⟨xs.length, h0, Nat.zero_add _⟩, fun i m H ⟨hp, em⟩ => ?_⟩
  obtain ⟨qx, qy⟩ := hq i H hp
  cases m with
  | zero =>
    have e : i = xs.length := em
    subst e
    exact .inl ⟨⟨xs, ys, qx, qy, .inl (Nat.le_refl _)⟩, hd H hp⟩
  | succ m =>
    have li : i < xs.length := by omega
    have hx := List.getElem?_eq_getElem li
    have hy := List.getElem?_eq_getElem (l := ys) (i := i) (by omega)
    refine .inr ⟨⟨xs, ys, _, _, qx, qy, hx, hy⟩, Pv (i + 1), fun H' h' => ⟨m, Nat.lt_succ_self m, h', by omega⟩, ?_⟩
    rintro _ _ ⟨T, x, y, rfl, hT, rfl, ex, ey⟩
    exact hs i x y T H (ex xs qx) (ey ys qy) hp hT
/-! three lists -/
def It3 (K : PySem.W.Frag) (a b c : Addr) : It :=
  ⟨fun i H => ∃ (xs ys zs : List V) (x y z : V), SqL K H a xs ∧ SqL K H b ys ∧ SqL K H c zs ∧ xs[i]? = some x ∧ ys[i]? = some y ∧ zs[i]? = some z,
    fun i H v H' => ∃ (T : Addr) (x y z : V), v = .ref T ∧ H T = none ∧ H' = upd H T (.tup [x, y, z]) ∧ (∀ xs, SqL K H a xs → xs[i]? = some x) ∧ (∀ ys, SqL K H b ys → ys[i]? = some y) ∧ ∀ zs, SqL K H c zs → zs[i]? = some z,
    fun i H => ∃ xs ys zs : List V, SqL K H a xs ∧ SqL K H b ys ∧ SqL K H c zs ∧ i ≤ xs.length ∧ i ≤ ys.length ∧ i ≤ zs.length ∧ (i = xs.length ∨ i = ys.length ∨ i = zs.length)⟩
theorem turn_3 {P : Program} {w : World} {K : PySem.W.Frag} {elts : List Expr} {kk : Nat} {tpos : Pos} {a b c z TI TO i1 i2 i3 : Addr} (D : ZipSep3 z TI TO i1 i2 i3 [i1, a] [i2, b] [i3, c]) (na : a ≠ i1) (nb : b ≠ i2) (nc : c ≠ i3) :
    Turn P w K (.Tuple elts kk tpos) (It3 K a b c) [z, TI, TO, i1, i2, i3] z (fun i h => IsZip h z TI TO .none ∧ IsTupOf3 h TI (.ref i1) (.ref i2) (.ref i3) ∧ (∃ x y u, IsTupOf3 h TO x y u) ∧ h.IsListIter i1 a i ∧ h.IsListIter i2 b i ∧ h.IsListIter i3 c i) where
  mem := List.mem_cons_self
  obj := fun i h st q hc => by
    obtain ⟨hz, hTI, ⟨x, y, u, hTO⟩, ⟨o1, e1, _, d1⟩, ⟨o2, e2, _, d2⟩, ⟨o3, e3, _, d3⟩⟩ := st
    simp only [List.mem_cons, List.mem_nil_iff, or_false] at hc
    rcases hc with q | q | q | q | q | q
    · subst q; exact ⟨_, hz, by intro v e; cases e⟩
    · subst q; exact ⟨_, hTI, by intro v e; cases e⟩
    · subst q; exact ⟨_, hTO, by intro v e; cases e⟩
    · exact ⟨o1, q ▸ e1, fun v q => by rw [d1] at q; cases q⟩
    · exact ⟨o2, q ▸ e2, fun v q => by rw [d2] at q; cases q⟩
    · exact ⟨o3, q ▸ e3, fun v q => by rw [d3] at q; cases q⟩
  keep := fun i h h' ⟨hz, hTI, ⟨x, y, u, hTO⟩, h1, h2, h3⟩ k => ⟨k z (by simp) _ hz, k TI (by simp) _ hTI, ⟨x, y, u, k TO (by simp) _ hTO⟩, h1.at fun o q => k i1 (by simp) o q, h2.at fun o q => k i2 (by simp) o q, h3.at fun o q => k i3 (by simp) o q⟩
  item := by
    intro X hP hw hK hc i pins s σ H E I hf ⟨hz, hTI, ⟨x0, y0, u0, hTO⟩, h1, h2, h3⟩ ⟨xs, ys, zs, x, y, zz, hqx, hqy, hqz, hx, hy, hzz⟩
    subst hP hw hK
    obtain ⟨its, rv, p, _⟩ := I.list hqx
    obtain ⟨its2, rv2, p2, _⟩ := I.list hqy
    obtain ⟨its3, rv3, p3, _⟩ := I.list hqz
    obtain ⟨u, hu, ru⟩ := rv.get hx
    obtain ⟨u2, hu2, ru2⟩ := rv2.get hy
    obtain ⟨u3, hu3, ru3⟩ := rv3.get hzz
    have hh := I.ok.hd hc
    have zl : z < s.heap.objs.size := Heap.lt_size hz
    have l1 := (List.getElem?_eq_some_iff.mp hu).1
    have l2 := (List.getElem?_eq_some_iff.mp hu2).1
    have l3 := (List.getElem?_eq_some_iff.mp hu3).1
    refine wpAny_pyNext_zipD3_item (i := i) D (Draws.list (A := X.A.in1) hh i1 a na its.toArray) (Draws.list (A := X.A.in1) hh i2 b nb its2.toArray) (Draws.list (A := X.A.in1) hh i3 c nc its3.toArray) hz hTI hTO ⟨h1, p.isList⟩ ⟨h2, p2.isList⟩ ⟨h3, p3.isList⟩ (by rw [List.size_toArray]; exact l1) (by rw [List.size_toArray]; exact l2) (by rw [List.size_toArray]; exact l3) fun x1 x2 x3 h' tk q1 q2 q3 z' TO' s1' s2' s3' hT _ hk => ?_
    have e1 : x1 = u := by rw [← Array.getElem?_toList] at q1; exact Option.some.inj (q1.symm.trans hu)
    have e2 : x2 = u2 := by rw [← Array.getElem?_toList] at q2; exact Option.some.inj (q2.symm.trans hu2)
    have e3 : x3 = u3 := by rw [← Array.getElem?_toList] at q3; exact Option.some.inj (q3.symm.trans hu3)
    subst e1 e2 e3
    refine ⟨_, rfl, wpAny_letOwnedTupleGo_zip (s := { s with heap := h', toks := tk }) z' fun h'' z'' sb => ?_⟩
    have hT2 : h''.get? s.heap.objs.size = some { cls := .type "tuple", data := .seq #[x1, x2, x3] } := (sb.2 _ (Nat.ne_of_gt zl)).trans hT
    have new : ObjOk X.prog X.w (upd H s.heap.objs.size (.tup [x, y, zz])) h'' s.heap.objs.size (.tup [x, y, zz]) := ⟨by show 3 ≤ sizeLine; decide, [x1, x2, x3], .cons ru (.cons ru2 (.cons ru3 .nil)), ⟨_, hT2, rfl, _, rfl⟩⟩
    have I1 : Inv X pins σ (upd H s.heap.objs.size (.tup [x, y, zz])) { s with heap := h'', toks := tk } :=
      I.turnedNew (t' := tk) (ch := [z, TI, TO, i1, i2, i3]) (fun c o hb q => by
        simp only [List.mem_cons, List.mem_nil_iff, or_false, not_or] at hb
        exact (sb.2 c hb.1).trans (hk c o hb.1 hb.2.2.1 hb.2.2.2.1 hb.2.2.2.2.1 hb.2.2.2.2.2 q)) hf (Nat.le_refl _) new
    refine ⟨.ref s.heap.objs.size, _, I1, rfl, ⟨_, x, y, zz, rfl, I.hok.fresh (Nat.le_refl _), rfl, fun l hl => by rw [I.list_inj hl hqx]; exact hx, fun l hl => by rw [I.list_inj hl hqy]; exact hy, fun l hl => by rw [I.list_inj hl hqz]; exact hzz⟩, ⟨z'', ?_, ⟨x1, x2, x3, ?_⟩, ?_, ?_, ?_⟩, fun c hcm => ?_⟩
    · exact (sb.2 _ D.TIz).trans (hk _ _ D.TIz D.TITO D.TIi1 D.TIi2 D.TIi3 hTI)
    · exact (sb.2 _ D.TOz).trans TO'
    · exact s1'.1.at fun o q => (sb.2 _ D.zi1.symm).trans q
    · exact s2'.1.at fun o q => (sb.2 _ D.zi2.symm).trans q
    · exact s3'.1.at fun o q => (sb.2 _ D.zi3.symm).trans q
    · have hlt : c < s.heap.objs.size := by
        simp only [List.mem_cons, List.mem_nil_iff, or_false] at hcm
        rcases hcm with q | q | q | q | q | q
        · exact q ▸ zl
        · exact q ▸ Heap.lt_size hTI
        · exact q ▸ Heap.lt_size hTO
        · obtain ⟨_, e1, _⟩ := h1
          exact q ▸ Heap.lt_size e1
        · obtain ⟨_, e2, _⟩ := h2
          exact q ▸ Heap.lt_size e2
        · obtain ⟨_, e3, _⟩ := h3
          exact q ▸ Heap.lt_size e3
      rw [upd_ne (Nat.ne_of_lt hlt)]
      exact (hf c hcm).1
  done := by
    intro X hP hw hK hc i pins s σ H E I hf ⟨hz, hTI, ⟨x0, y0, u0, hTO⟩, h1, h2, h3⟩ ⟨xs, ys, zs, hqx, hqy, hqz, m1, m2, m3, hend⟩
    subst hP hw hK
    obtain ⟨its, rv, p, _⟩ := I.list hqx
    obtain ⟨its2, rv2, p2, _⟩ := I.list hqy
    obtain ⟨its3, rv3, p3, _⟩ := I.list hqz
    have hh := I.ok.hd hc
    have l1 := rv.length
    have l2 := rv2.length
    have l3 := rv3.length
    exact wpAny_pyNext_zipD3_end (i := i) D (Draws.list (A := X.A.in1) hh i1 a na its.toArray) (Draws.list (A := X.A.in1) hh i2 b nb its2.toArray) (Draws.list (A := X.A.in1) hh i3 c nc its3.toArray) hz hTI hTO ⟨h1, p.isList⟩ ⟨h2, p2.isList⟩ ⟨h3, p3.isList⟩ (by rw [List.size_toArray]; omega) (by rw [List.size_toArray]; omega) (by rw [List.size_toArray]; omega)
      (by rw [List.size_toArray, List.size_toArray, List.size_toArray]; omega)
      fun h' tk hk => ⟨rfl, I.turnedL (t' := tk) (ch := [z, TI, TO, i1, i2, i3]) (fun c o hb q => by
        simp only [List.mem_cons, List.mem_nil_iff, or_false, not_or] at hb
        exact hk c o hb.1 hb.2.2.1 hb.2.2.2.1 hb.2.2.2.2.1 hb.2.2.2.2.2 q) hf⟩
  self := fun A i s Q E st h => wpAny_pyIter_zip st.1 h
def iZip3 (K : PySem.W.Frag) (ta : TA) : TI := fun σ H R => ta σ H fun vs H1 => ∃ (a b c : Addr) (xs ys zs : List V), vs = [.ref a, .ref b, .ref c] ∧ SqL K H1 a xs ∧ SqL K H1 b ys ∧ SqL K H1 c zs ∧ R (It3 K a b c) H1
theorem pi_zip3 {X : Cx} {K : PySem.W.Frag} {e e2 e3 : Expr} {ta : TA} {p pos tpos : Pos} {elts : List Expr} {kk : Nat} (hK : X.K = K) (hg : Gl X "zip") (hm : X.mg "zip" = none) (ha : PA X [e, e2, e3] ta)
    (hs : starEach [e, e2, e3] X.env = (false, eval e X.env) :: starEach [e2, e3] X.env := by rfl) (hpl : (backTo pos (starEach [e2, e3] X.env)).any (·.1) = false := by rfl) :
    PI X (.Tuple elts kk tpos) (.Call (.Name "zip" p) [e, e2, e3] [] pos) (iZip3 K ta) := by
  subst hK
  refine ⟨fun pins s σ H R I h => ?_⟩
  refine Call_ (ld_blt I hg hm PyProof.Rows.boot_zip (PyProof.Rows.callWith_type1 (thn (ha.run pos pins s σ H _ I h) fun us s1 ⟨vs, H1, I1, r1, a, b, c, xs, ys, zs, ex, hqx, hqy, hqz, q⟩ => ?_) hs hpl))
  subst ex
  cases r1 with
  | cons r rr =>
  cases rr with
  | cons r' rr =>
  cases rr with
  | cons r'' rr =>
  cases rr
  cases r
  cases r'
  cases r''
  obtain ⟨its, rv, p1, _⟩ := I1.list hqx
  obtain ⟨its2, rv2, p2, _⟩ := I1.list hqy
  obtain ⟨its3, rv3, p3, _⟩ := I1.list hqz
  refine call_zt p1.isList p2.isList p3.isList fun h' hz hTI hTO h1 h2 h3 hk => wpAny_pyIter_zip hz ?_
  have I2 : Inv X pins σ H1 { s1 with heap := h' } := I1.kept (t' := s1.toks) hk
  have D := sep_t s1.heap.objs.size a b c p1.lt p2.lt p3.lt
  refine ⟨s1.heap.objs.size + 5, [s1.heap.objs.size + 5, s1.heap.objs.size + 3, s1.heap.objs.size + 4, s1.heap.objs.size, s1.heap.objs.size + 1, s1.heap.objs.size + 2], _, _, H1, rfl, I2, turn_3 D (Nat.ne_of_lt p1.lt) (ne_add _ _ 1 p2.lt) (ne_add _ _ 2 p3.lt), ⟨hz, hTI, ⟨_, _, _, hTO⟩, h1, h2, h3⟩, fun c hcm => ?_, q⟩
  have hle : s1.heap.objs.size ≤ c := by
    simp only [List.mem_cons, List.mem_nil_iff, or_false] at hcm
    exact le_two hcm
  exact I1.fpOk hle (I1.hok.fresh hle)
theorem for_zip3 {K : PySem.W.Frag} {a b c : Addr} {xs ys zs : List V} {g : TG} {tb : TS} {D : Ends} {σ : L2.St} {H : Hp} (h1 : xs.length = ys.length) (h2 : xs.length = zs.length) (Pv : Nat → L2.St → Hp → Prop) (h0 : Pv 0 σ H)
    (hq : ∀ i σ H, Pv i σ H → SqL K H a xs ∧ SqL K H b ys ∧ SqL K H c zs)
    (hs : ∀ i x y z T σ H, xs[i]? = some x → ys[i]? = some y → zs[i]? = some z → Pv i σ H → H T = none → g (.ref T) σ (upd H T (.tup [x, y, z])) fun σ2 H2 => tb { nx := Pv (i + 1), rt := D.rt, bk := D.nx, ct := Pv (i + 1) } σ2 H2)
    (hd : ∀ σ H, Pv xs.length σ H → D.nx σ H) :
    ∃ W : Nat → Nat → L2.St → Hp → Prop, (∃ m, W 0 m σ H) ∧ ∀ i m σ H, W i m σ H → ((It3 K a b c).stop i H ∧ D.nx σ H) ∨ ((It3 K a b c).go i H ∧ ∃ N : L2.St → Hp → Prop, (∀ σ' H', N σ' H' → ∃ m', m' < m ∧ W (i + 1) m' σ' H') ∧
      ∀ x H', (It3 K a b c).yld i H x H' → g x σ H' fun σ2 H2 => tb { nx := N, rt := D.rt, bk := D.nx, ct := N } σ2 H2) := by
  refine ⟨fun i m σ H => Pv i σ H ∧ i + m = xs.length, ⟨xs.length, h0, Nat.zero_add _⟩, fun i m σ H ⟨hp, em⟩ => ?_⟩
  obtain ⟨qx, qy, qz⟩ := hq i σ H hp
  cases m with
  | zero =>
    have e : i = xs.length := em
    subst e
    exact .inl ⟨⟨xs, ys, zs, qx, qy, qz, Nat.le_refl _, by omega, by omega, .inl rfl⟩, hd σ H hp⟩
  | succ m =>
    have li : i < xs.length := by omega
    have hx := List.getElem?_eq_getElem li
    have hy := List.getElem?_eq_getElem (l := ys) (i := i) (by omega)
    have hz := List.getElem?_eq_getElem (l := zs) (i := i) (by omega)
    refine .inr ⟨⟨xs, ys, zs, _, _, _, qx, qy, qz, hx, hy, hz⟩, Pv (i + 1), fun σ' H' h' => ⟨m, Nat.lt_succ_self m, h', by omega⟩, ?_⟩
    rintro _ _ ⟨T, x, y, z, rfl, hT, rfl, ex, ey, ez⟩
    exact hs i x y z T σ H (ex xs qx) (ey ys qy) (ez zs qz) hp hT
end Bs
namespace Bs
open PySem PySem.Spec PyProof.Rows L2 GenW
/-! ### yield from a list -/
section
variable {prog : Program} {w : World} {A : Around} {E : Value → Shared → Prop} {s : Shared}
theorem sp_list_item {it l : Addr} {i : Nat} {items : Array Value} {x : Value} {Q : Option Value → Shared → Prop} (hit : s.heap.IsListIter it l i) (hl : s.heap.IsList l items) (hx : items[i]? = some x)
    (hQ : ∀ h', h'.IsListIter it l (i + 1) → Heap.SameBut it s.heap h' → Q (some x) { s with heap := h' }) : wpAny (model prog w) A (callSpecial? (.ref it) "__next__") Q E s := by
  obtain ⟨o, ho, hc, hd⟩ := id hit
  obtain ⟨ol, hol, _, nl, hdl⟩ := hl
  refine wpAny_callSpecial?_slot (name := Str.ofString "__next__") hit.typeIs slot_listiter_next (wpAny_call_entry slot_listiter_next hit.typeIs entry_listiter_next ?_ (args_listiter_next _))
  show wpAny _ _ (field (.ref it) 0 >>= _) _ _ s
  refine wpAny_bind (wpAny_field ho hd (x := .ref l) rfl ?_)
  show wpAny _ _ (if (Value.ref l == Value.none) = true then _ else _) _ _ s
  rw [if_neg (show ¬ ((Value.ref l == Value.none) = true) from Bool.false_ne_true)]
  show wpAny _ _ (field (.ref it) 1 >>= _) _ _ s
  refine wpAny_bind (wpAny_field ho hd (x := .int i 0) rfl ?_)
  show wpAny _ _ (seqItems? (.ref l) >>= _) _ _ s
  refine wpAny_bind (wpAny_seqItems hol hdl ?_)
  simp only [Int.toNat_natCast, hx]
  refine wpAny_bind (wpAny_setField ho hd (by simp) (wpAny_pure ⟨x, rfl, hQ _ ?_ (Heap.SameBut.update ..)⟩))
  exact ⟨_, Heap.get?_update_self _ ho (Obj.isFreed_of_fields (Obj.data_mapFields hd _)), (Obj.cls_mapFields ..).trans hc, by rw [Obj.data_mapFields hd]; simp [rawInt]⟩
theorem sp_list_end {it l : Addr} {i : Nat} {items : Array Value} {Q : Option Value → Shared → Prop} (hh : A.handled = none) (hit : s.heap.IsListIter it l i) (hl : s.heap.IsList l items) (hx : items[i]? = none)
    (hE : ∀ e h', StopX e h' → Heap.ExtBut it s.heap h' → E e { s with heap := h' }) : wpAny (model prog w) A (callSpecial? (.ref it) "__next__") Q E s := by
  obtain ⟨o, ho, hc, hd⟩ := id hit
  obtain ⟨ol, hol, _, nl, hdl⟩ := hl
  refine wpAny_callSpecial?_slot (name := Str.ofString "__next__") hit.typeIs slot_listiter_next (wpAny_call_entry slot_listiter_next hit.typeIs entry_listiter_next ?_ (args_listiter_next _))
  show wpAny _ _ (field (.ref it) 0 >>= _) _ _ s
  refine wpAny_bind (wpAny_field ho hd (x := .ref l) rfl ?_)
  show wpAny _ _ (if (Value.ref l == Value.none) = true then _ else _) _ _ s
  rw [if_neg (show ¬ ((Value.ref l == Value.none) = true) from Bool.false_ne_true)]
  show wpAny _ _ (field (.ref it) 1 >>= _) _ _ s
  refine wpAny_bind (wpAny_field ho hd (x := .int i 0) rfl ?_)
  show wpAny _ _ (seqItems? (.ref l) >>= _) _ _ s
  refine wpAny_bind (wpAny_seqItems hol hdl ?_)
  simp only [Int.toNat_natCast, hx]
  refine wpAny_bind (wpAny_rule (wpAny_bind (wpAny_setField ho hd (by simp) ?_)))
  show wpAny _ _ (newExc (.type "StopIteration") [] >>= _) _ _ _
  refine wpAny_bind ?_
  simp only [newExc, newTuple]
  refine wpAny_bind (wpAny_newObj_type ?_ (by size_fits))
  refine wpAny_bind (m := firstArgMember _ _) (wpAny_of_eq (a := Value.none) (by first | rfl | (simp only [firstArgMember]; rfl)) ?_)
  refine wpAny_newObj_type ?_ (by size_fits)
  simp only [raiseNew]
  refine wpAny_bind (wpAny_handled ?_)
  first | rw [show A.in1.handled = none from hh] | rw [hh]
  refine wpAny_bind (wpAny_pure (wpAny_throw ?_))
  refine hE _ _ ⟨_, _, _, rfl, Heap.get?_push_size _ rfl, rfl, rfl, ?_⟩ (((Heap.SameBut.update ..).extBut.push _).push _)
  first
    | rfl
    | (rw [Array.getElem?_append_left (by decide)]; rfl)
    | kernel_rfl
end
def tYfLst (te : TE) : TYf := fun σ H Q => te σ H fun x H1 => ∃ a xs, x = .ref a ∧ H1 a = some (.lst xs) ∧ Q xs H1
theorem close_lst : typeLookup (.type "list_iterator") "close" = pure none := by rw [typeLookup_type, builtinLookup_eq_fast]; kernel_rfl
theorem yf_lst {X : Cx} {e : Expr} {te : TE} (he : PE X e te) : YfE X e (tYfLst te) := by
  refine ⟨fun pins s σ H Q I h => ?_⟩
  refine thn (he.run pins s σ H _ I h) fun v s1 ⟨x, H1, I1, r1, a, xs, ex, ha, hq⟩ => ?_
  subst ex
  obtain rfl : v = Value.ref a := r1
  obtain ⟨hlen, its, cap, rits, ht0⟩ := (show ObjOk X.prog X.w H1 s1.heap a (.lst xs) from I1.hok a _ ha)
  have ht : s1.heap.IsList a its.toArray := ⟨_, ht0, rfl, _, rfl⟩
  have htl : a < s1.heap.objs.size := Heap.lt_size ht0
  refine ⟨"list", ht.typeIs, by decide, wpAny_pyIter_list ht ?_⟩
  have ksz : ∀ b o, s1.heap.get? b = some o → b ≠ s1.heap.objs.size := fun b o e => Nat.ne_of_lt (Heap.lt_size e)
  have kp : ∀ b o, s1.heap.get? b = some o → (s1.heap.push { cls := .type "list_iterator", data := .fields #[.ref a, .int 0 0] }).get? b = some o := fun b o e => Heap.get?_push_of_some _ e
  refine ⟨s1.heap.objs.size, H1, xs, fun j h => h.IsListIter s1.heap.objs.size a j ∧ h.IsList a its.toArray, rfl, I1.kept (t' := s1.toks) kp, .inr I1.sz, Nat.ne_of_gt I1.lt, fun y c hy => ?_, I1.hok.fresh (Nat.le_refl _), fun p hp => ?_,
    ⟨⟨_, Heap.get?_push_size _ rfl, rfl, rfl⟩, ⟨_, kp _ _ ht0, rfl, _, rfl⟩⟩, ⟨⟨"list_iterator", fun j h q => ?_, close_lst, by decide⟩, fun j h h' q hk => ?_, fun A' j x s2 Q' E' hA hx q hQ => ?_, fun A' s2 Q' E' hA q hE => ?_⟩, hq⟩
  · obtain ⟨v, o, ho, _⟩ := I1.cell y c hy
    exact ksz c o ho
  · exact ksz p.1 _ (I1.pin p hp).1
  · obtain ⟨⟨o, ho, hc, _⟩, _⟩ := q
    exact ⟨o, ho, hc⟩
  · obtain ⟨⟨o, ho, r⟩, o2, ho2, r2⟩ := q
    exact ⟨⟨o, hk _ o (.inl rfl) ho, r⟩, o2, hk _ o2 (.inr (by rw [ha]; exact fun z => by cases z)) ho2, r2⟩
  · obtain ⟨q1, q2⟩ := q
    obtain ⟨u, hu, ru⟩ := rits.get hx
    have hne : a ≠ s1.heap.objs.size := Nat.ne_of_lt htl
    refine sp_list_item q1 q2 (x := u) (by simpa using hu) fun h' q1' hs => hQ u h' s2.toks ru ⟨q1', ?_⟩ fun b o hb eb => hs.extBut b o hb eb
    obtain ⟨o2, ho2, r2⟩ := q2
    exact ⟨o2, hs.extBut _ _ hne ho2, r2⟩
  · obtain ⟨q1, q2⟩ := q
    have hnone : its.toArray[xs.length]? = none := by
      have e := rits.length
      have e2 : its[xs.length]? = none := List.getElem?_eq_none_iff.mpr (by omega)
      simpa using e2
    exact sp_list_end hA q1 q2 hnone fun e h' hS hk => hE e h' s2.toks hS fun b o hb eb => hk b o hb eb
/-! ### list(d.values()) -/
theorem kv_at {κ : Type} : ∀ {kvs : List (κ × V)} {vs : List (κ × Value)}, KV kvs vs → ∀ {j : Nat} {x : V} {k : κ} {w : Value}, (kvs.map fun kv => kv.2)[j]? = some x → vs[j]? = some (k, w) → RelV x w
  | _, _, .cons r t, 0, _, _, _, h1, h2 => by
    simp only [List.map_cons, List.getElem?_cons_zero, Option.some.injEq] at h1 h2
    rw [← h1]
    have e := r.2
    rw [h2] at e
    exact e
  | _, _, .cons r t, j + 1, _, _, _, h1, h2 => kv_at t (j := j) (by simpa using h1) (by simpa using h2)
  | _, _, .nil, _, _, _, _, _, h2 => by simp at h2
def tLV (td : TE) : TE := fun σ H Q => td σ H fun x H1 => ∃ d kvs, x = .ref d ∧ H1 d = some (.dK kvs) ∧ ∀ q, H1 q = none → Q (.ref q) (upd H1 q (.lst (kvs.map fun kv => kv.2)))
theorem pe_listVals {X : Cx} {e : Expr} {td : TE} {p pos apos cpos : Pos} (hc : X.calm = true) (hg : Gl X "list") (hmg : X.mg "list" = none) (he : PE X e td)
    (hbase : attributeBase e "values" X.env (eval e X.env) = eval e X.env := by rfl) (hline : (apos.endLine == cpos.line) = true := by rfl)
    (hst : starEach [.Call (.Attribute e "values" apos) [] [] cpos] X.env = (false, eval (.Call (.Attribute e "values" apos) [] [] cpos) X.env) :: starEach [] X.env := by rfl) :
    PE X (.Call (.Name "list" p) [.Call (.Attribute e "values" apos) [] [] cpos] [] pos) (tLV td) := by
  refine ⟨fun pins s σ H Q I h => ?_⟩
  refine wpAny_Call_Name_kw (ld_blt I hg hmg boot_list ?_ (by decide) (by decide))
  refine PyProof.Rows.callWith_type1 ?_ hst rfl
  rw [hst]
  show wpAny _ _ (spliced ((false, eval (.Call (.Attribute e "values" apos) [] [] cpos) X.env) :: backTo pos (starEach [] X.env))) _ _ s
  refine Calls.spliced_cons ?_
  refine wpAny_Call_method (T := "dict") (id := "dict.values") hbase rfl hline F.plainAttrs_dict F.slot_dict_values F.type_dict_values (thn (he.run pins s σ H _ I h) fun u s1 ⟨x, H1, I1, rx, d, kvs, ex, hd, q⟩ => ?_)
  subst ex
  obtain rfl : u = Value.ref d := rx
  obtain ⟨z, lo, vs, rk, hdd⟩ := (show ObjOk X.prog X.w H1 s1.heap d (.dK kvs) from I1.hok d _ hd)
  obtain ⟨ep, hat⟩ := hdd.dictAt
  have hl : kvs.length = vs.length := Paired.length rk
  refine ⟨hdd.typeIs, hdd.mapOf.noDict, ?_⟩
  show wpAny _ _ (callWith cpos (.builtin "dict.values") [.ref d] [] []) _ X.xe s1
  refine method_meetsIn F.slot_dict_values F.entry_dict_values rfl (PySem.evalArgs_none ⟨rfl, hdd.typeIs, F.args_dict_values_1 _, _, meets_dict_values (mixKind X.prog X.w) d lo, ⟨vs, hdd⟩, ?_⟩)
  refine Calls.spliced_nil ?_
  have kp : ∀ b o, s1.heap.get? b = some o → (s1.heap.push { cls := .type "dict_values", data := .fields #[.ref d] }).get? b = some o := fun b o e => Heap.get?_push_of_some _ e
  have I2 : Inv X pins σ H1 { s1 with heap := s1.heap.push { cls := .type "dict_values", data := .fields #[.ref d] } } := I1.kept (t' := s1.toks) kp
  refine PySem.W.kdl_call (s := { s1 with heap := s1.heap.push { cls := .type "dict_values", data := .fields #[.ref d] } }) (PySem.W.kdl_values (knd := mixKind X.prog X.w) (kvs := vs) (ep := ep) (r := s1.heap.objs.size) (d := d)) (I2.ok.hd hc) ⟨⟨_, Heap.get?_push_size _ rfl, rfl, rfl⟩, hat.push _⟩ (by rw [← hl]; exact z) fun h' tk acc' c' hkeep hS hacc => ?_
  refine ⟨.ref _, upd H1 _ (.lst (kvs.map fun kv => kv.2)), I2.laid hkeep (Nat.le_refl _) (show ObjOk X.prog X.w _ _ _ (.lst (kvs.map fun kv => kv.2)) from ⟨?_, acc'.toList, c', ?_, ?_⟩), rfl, q _ (I2.hok.fresh (Nat.le_refl _))⟩
  · rw [List.length_map]; exact z
  · have el : acc'.toList.length = acc'.size := by simp
    refine vals_of_at (by rw [List.length_map, el, hacc.1, hl]) fun j x w h1 h2 => ?_
    obtain ⟨k, hky⟩ := hacc.2 j w (by rw [← Array.getElem?_toList]; exact h2)
    exact kv_at rk h1 hky
  · rw [Array.toArray_toList]; exact hS
end Bs
/-! ### != of two lists of tuples that hold the same int and the same object -/
namespace Bs
open PySem PySem.Spec PyProof.Rows L2 PySem.SeqAt
section
variable {X : Cx}
def TwinT (K : PySem.W.Frag) (H : Hp) (v z : V) : Prop := ∃ (t a : Addr) (n : Int) (r : Addr), v = .ref t ∧ z = .ref a ∧ SqT K H t [.int n, .ref r] ∧ SqT K H a [.int n, .ref r]
def rNeTs (K : PySem.W.Frag) : R2 := fun x y H Q => ∃ (l b : Addr) (vs xs : List V), x = .ref l ∧ y = .ref b ∧ SqL K H l vs ∧ SqL K H b xs ∧ vs.length = xs.length ∧ (∀ (i : Nat) (v z : V), vs[i]? = some v → xs[i]? = some z → TwinT K H v z) ∧ Q (.bl false) H
theorem twin_eq {A : Around} {pins : List (Addr × Obj)} {s : Shared} {σ : L2.St} {H : Hp} {v z : V} {u w : Value} (I : Inv X pins σ H s) (h : TwinT X.K H v z) (ru : RelV v u) (rw_ : RelV z w) (hu : A.units + 8 < cLine) : EqAt A s u w true := by
  obtain ⟨t, a, n, r, rfl, rfl, ht, ha⟩ := h
  cases ru
  cases rw_
  by_cases c : t = a
  · subst c; exact EqAt.same _
  obtain ⟨its, r1, h1, _⟩ := I.tuple ht
  obtain ⟨jts, r2, h2, _⟩ := I.tuple ha
  cases r1 with
  | cons p1 q1 =>
  cases q1 with
  | cons p2 q2 =>
  cases q2
  cases r2 with
  | cons p3 q3 =>
  cases q3 with
  | cons p4 q4 =>
  cases q4
  obtain ⟨k1, rfl⟩ := p1
  obtain ⟨k3, rfl⟩ := p3
  cases p2
  cases p4
  have e := RcAt.tuples (A := A) (s := s) (e := fun _ => true) h1 h2 (by omega) (fun j j1 j2 => by
    match j, j1, j2 with
    | 0, _, _ =>
      have z := EqAt.int_int (A := A.in1) (s := s) n k1 n k3
      rw [beq_self_eq_true] at z
      exact z
    | 1, _, _ => exact EqAt.same _)
  exact EqAt.of_refs c e
theorem op_neTs {K : PySem.W.Frag} (hK : X.K = K) (hu : X.A.units + 64 < cLine) : OpR X (compareOp .NotEq) (rNeTs K) := by
  subst hK
  intro pins s σ H x y v u Q I rx ry h
  obtain ⟨l, b, vs, xs, rfl, rfl, hl, hb, hn, ht, q⟩ := h
  cases rx
  cases ry
  obtain ⟨its, r1, h1, _⟩ := I.list hl
  obtain ⟨jts, r2, h2, _⟩ := I.list hb
  have n1 := r1.length
  have n2 := r2.length
  have e := RcNeAt.lists (A := X.A) (s := s) (e := fun _ => true) h1.isList h2.isList (by simp only [List.size_toArray]; omega) (by omega) (fun j j1 j2 => by
    have g1 : j < its.length := by simpa using j1
    have g2 : j < jts.length := by simpa using j2
    obtain ⟨u1, a1, b1⟩ := r1.get (List.getElem?_eq_getElem (show j < vs.length by omega))
    obtain ⟨u2, a2, b2⟩ := r2.get (List.getElem?_eq_getElem (show j < xs.length by omega))
    have z := twin_eq (A := X.A.in1) I (ht j _ _ (List.getElem?_eq_getElem (show j < vs.length by omega)) (List.getElem?_eq_getElem (show j < xs.length by omega))) b1 b2 (by show X.A.units + 1 + 8 < cLine; omega)
    rw [List.getElem?_eq_getElem g1] at a1
    rw [List.getElem?_eq_getElem g2] at a2
    cases a1
    cases a2
    simpa using z)
  have al : ((List.range its.toArray.size).all fun _ => true) = true := by simp
  rw [al] at e
  exact e X.prog X.w _ _ ⟨.bl false, H, I, rfl, q⟩
end
end Bs
namespace Bs
open PySem PySem.Spec PyProof.Rows L2 SX
variable {P : Program} {w : World} {K : PySem.W.Frag} {mg : Str → Option Value} {base : Heap}
/-! ### the part of the heap that never changes again -/
def KpO (p : Option Addr) (H H' : Hp) : Prop := ∀ b o, H b = some o → some b ≠ p → H' b = some o
structure Step (p : Option Addr) (G H G' H' : Hp) : Prop where
  gg : Same G G'
  gh : Same G' H'
  new : ∀ b, G' b ≠ none → G b ≠ none ∨ H b = none
  kp : KpO p H H'
  pp : ∀ b, some b = p → H b ≠ none → H' b ≠ none
section
variable {p : Option Addr} {G H G1 H1 G2 H2 : Hp} {q : Addr} {o : HO}
theorem Step.refl (h : Same G H) : Step p G H G H := ⟨Same.refl G, h, fun b hb => .inl hb, fun b o e _ => e, fun b _ e => e⟩
theorem Step.keep (a : Step p G H G1 H1) {b : Addr} (hb : H b ≠ none) : H1 b ≠ none := by
  by_cases e : some b = p
  · exact a.pp b e hb
  · cases eh : H b with
    | none => exact absurd eh hb
    | some o => rw [a.kp b o eh e]; exact fun z => by cases z
theorem Step.free (a : Step p G H G1 H1) {b : Addr} (hb : H1 b = none) : H b = none := by
  cases eh : H b with
  | none => rfl
  | some o => exact absurd hb (a.keep (by rw [eh]; exact fun z => by cases z))
theorem Step.trans (a : Step p G H G1 H1) (b : Step p G1 H1 G2 H2) : Step p G H G2 H2 where
  gg := a.gg.trans b.gg
  gh := b.gh
  new c hc := by
    rcases b.new c hc with h | h
    · exact a.new c h
    · exact .inr (a.free h)
  kp c o e n := b.kp c o (a.kp c o e n) n
  pp c e h := b.pp c e (a.pp c e h)
theorem Step.out (a : Step p G H G1 H1) {b : Addr} (h1 : G b = none) (h2 : H b ≠ none) : G1 b = none := by
  cases e : G1 b with
  | none => rfl
  | some o =>
    rcases a.new b (by rw [e]; exact fun z => by cases z) with h | h
    · exact absurd h1 h
    · exact absurd h h2
theorem same_none (h : Same G H) (hq : H q = none) : G q = none := h.free hq
/-- a new object that will never change -/
theorem Step.new_ (a : Step p G H G1 H1) (hq : H1 q = none) : Step p G H (upd G1 q o) (upd H1 q o) where
  gg := Same.new a.gg (same_none a.gh hq)
  gh b u e := by
    by_cases c : b = q
    · subst c; rw [upd_same] at e ⊢; exact e
    · rw [upd_ne c] at e ⊢; exact a.gh b u e
  new b hb := by
    by_cases c : b = q
    · subst c; exact .inr (a.free hq)
    · rw [upd_ne c] at hb; exact a.new b hb
  kp b u e n := by
    have h := a.kp b u e n
    rw [upd_ne (ne_of_none h hq)]; exact h
  pp b e h := by
    have z := a.pp b e h
    have c : b ≠ q := fun c => z (by rw [c]; exact hq)
    rw [upd_ne c]; exact z
/-- an object that may change stands or changes at q, which was free at the start -/
theorem Step.loc (a : Step p G H G1 H1) (hq : H q = none) (gq : G1 q = none) : Step p G H G1 (upd H1 q o) where
  gg := a.gg
  gh b u e := by rw [upd_ne (ne_of_none e gq)]; exact a.gh b u e
  new := a.new
  kp b u e n := by rw [upd_ne (ne_of_none e hq)]; exact a.kp b u e n
  pp b e h := by
    have c : b ≠ q := fun c => h (by rw [c]; exact hq)
    rw [upd_ne c]; exact a.pp b e h
/-- what stands at a local q will never change again -/
theorem Step.freeze (a : Step p G H G1 H1) (hq : H q = none) (h : H1 q = some o) (gq : G1 q = none) : Step p G H (upd G1 q o) H1 where
  gg := Same.new a.gg gq
  gh b u e := by
    by_cases c : b = q
    · subst c; rw [upd_same] at e; rw [h]; exact e
    · rw [upd_ne c] at e; exact a.gh b u e
  new b hb := by
    by_cases c : b = q
    · subst c; exact .inr hq
    · rw [upd_ne c] at hb; exact a.new b hb
  kp := a.kp
  pp := a.pp
theorem Step.same (a : Step none G H G1 H1) : Same H H1 := fun b o e => a.kp b o e (fun z => by cases z)
theorem Step.some_ {c : Addr} (a : Step none G H G1 H1) : Step (some c) G H G1 H1 := ⟨a.gg, a.gh, a.new, fun b o e _ => a.same b o e, fun b _ h => by
  cases eh : H b with
  | none => exact absurd eh h
  | some o => rw [a.same b o eh]; exact fun z => by cases z⟩
theorem Kp.step {c : Addr} (k : Kp c H H1) (h : Same G H) (gc : G c = none) (hc : H c ≠ none → H1 c ≠ none) : Step (some c) G H G H1 where
  gg := Same.refl G
  gh b o e := k b o (h b o e) (ne_of_none e gc)
  new b hb := .inl hb
  kp b o e n := k b o e (fun z => n (by rw [z]))
  pp b e h := by rw [Option.some.inj e] at h ⊢; exact hc h
theorem Step.kpc {c : Addr} (a : Step (some c) G H G1 H1) : Kp c H H1 := fun b o e n => a.kp b o e fun z => n (Option.some.inj z)
end
/-- the pen stands at p, outside of what never changes -/
structure Ps (K : PySem.W.Frag) (G H : Hp) (p : Addr) (n : Nat) : Prop where
  gh : Same G H
  out : G p = none
  pen : Pen K H p n
theorem Ps.step {G H G1 H1 : Hp} {p : Addr} {n m : Nat} (a : Ps K G H p n) (s : Step (some p) G H G1 H1) (h : Pen K H1 p m) : Ps K G1 H1 p m := ⟨s.gh, s.out a.out a.pen.there, h⟩
theorem Ps.stepN {G H G1 H1 : Hp} {p : Addr} {n : Nat} (a : Ps K G H p n) (s : Step none G H G1 H1) : Ps K G1 H1 p n := ⟨s.gh, s.out a.out a.pen.there, a.pen.same s.same⟩
theorem Ps.draw {G H H1 : Hp} {p : Addr} {n : Nat} (a : Ps K G H p n) (k : Kp p H H1) (h : Pen K H1 p (n + 1)) : Step (some p) G H G H1 ∧ Ps K G H1 p (n + 1) := by
  have s : Step (some p) G H G H1 := Kp.step k a.gh a.out fun _ => h.there
  exact ⟨s, a.step s h⟩
theorem Ps.new_ {G H : Hp} {p q : Addr} {n : Nat} {o : HO} (a : Ps K G H p n) (hq : H q = none) : Step (some p) G H (upd G q o) (upd H q o) ∧ Ps K (upd G q o) (upd H q o) p n := by
  have s : Step none G H (upd G q o) (upd H q o) := (Step.refl a.gh).new_ hq
  exact ⟨s.some_, a.stepN s⟩
theorem Ps.mono {G H : Hp} {p : Addr} {n m : Nat} (a : Ps K G H p n) (h : n ≤ m) : Ps K G H p m := ⟨a.gh, a.out, a.pen.mono h⟩
/-! ### terms -/
inductive So where
  | row | column | place | zero | func | rule
  deriving DecidableEq
def So.s : So → Str
  | .row => "row"
  | .column => "column"
  | .place => "place"
  | .zero => "zero"
  | .func => "function"
  | .rule => "rule"
inductive Mt where
  | mk (so : So) (w : List Nat) (ts : List Mt) (b : Bool)
def tx (so : So) (w : List Nat) (xs : List (List Nat)) (b : Bool) : List Nat := match so with
  | .row => if b = true then w ++ [39] else w
  | .column => xs.headD [] ++ [46] ++ w
  | .place => [64] ++ xs.headD []
  | .zero => [48]
  | .func => w ++ [40] ++ TL.joinL [44, 32] xs ++ [41]
  | .rule => w ++ [91] ++ TL.joinL [44, 32] xs ++ [93]
def Mt.txt : Mt → List Nat
  | .mk so w ts b => tx so w (ts.map Mt.txt) b
theorem Mt.txt_mk (so : So) (w : List Nat) (ts : List Mt) (b : Bool) : (Mt.mk so w ts b).txt = tx so w (ts.map Mt.txt) b := by rw [Mt.txt]
def Mt.dep : Mt → Nat
  | .mk _ _ ts _ => 1 + (ts.map Mt.dep).foldr max 0
theorem Mt.dep_mk (so : So) (w : List Nat) (ts : List Mt) (b : Bool) : (Mt.mk so w ts b).dep = 1 + (ts.map Mt.dep).foldr max 0 := by rw [Mt.dep]
theorem fold_max {l : List Nat} {x : Nat} (h : x ∈ l) : x ≤ l.foldr max 0 := by
  induction l with
  | nil => cases h
  | cons y r ih =>
    rw [List.foldr_cons]
    rcases List.mem_cons.mp h with h | h
    · rw [h]; exact Nat.le_max_left ..
    · exact Nat.le_trans (ih h) (Nat.le_max_right ..)
theorem Mt.dep_part {so : So} {w : List Nat} {ts : List Mt} {b : Bool} {t : Mt} (h : t ∈ ts) : t.dep < (Mt.mk so w ts b).dep := by
  rw [Mt.dep_mk]
  have := fold_max (List.mem_map_of_mem (f := Mt.dep) h)
  omega
/-- the law's own tuples of a term, all below what never changes -/
inductive MAt (G : Hp) : V → Mt → Prop where
  | mk {a p : Addr} {so : So} {w : List Nat} {vs : List V} {ts : List Mt} {b : Bool} (ha : G a = some (.tup [.str so.s, .str (S w), .ref p, .bl b])) (hp : G p = some (.tup vs)) (hl : vs.length = ts.length)
      (h : ∀ (i : Nat) (v : V) (t : Mt), vs[i]? = some v → ts[i]? = some t → MAt G v t) : MAt G (.ref a) (.mk so w ts b)
theorem MAt.same {G G' : Hp} (s : Same G G') : ∀ {v : V} {t : Mt}, MAt G v t → MAt G' v t := fun h => by
  induction h with
  | mk ha hp hl _ ih => exact .mk (s _ _ ha) (s _ _ hp) hl ih
/-- the program's term objects -/
def tf (so : So) (w : List Nat) (l : Addr) (b : Bool) (t : List Nat) (d : Nat) : List (Str × V) :=
  putF "_depth" (.int (d : Nat)) (putF "text" (.str (S t)) (putF "marked" (.bl b) (putF "parts" (.ref l) (putF "name" (.str (S w)) (putF "kind" (.str so.s) [])))))
inductive TAt (C : Addr) (G : Hp) : V → Mt → Prop where
  | mk {a dx l : Addr} {so : So} {w : List Nat} {vs : List V} {ts : List Mt} {b : Bool} (ha : G a = some (.ins C dx (tf so w l b (tx so w (ts.map Mt.txt) b) (1 + (ts.map Mt.dep).foldr max 0)))) (hp : G l = some (.lst vs)) (hl : vs.length = ts.length)
      (h : ∀ (i : Nat) (v : V) (t : Mt), vs[i]? = some v → ts[i]? = some t → TAt C G v t) : TAt C G (.ref a) (.mk so w ts b)
theorem TAt.same {C : Addr} {G G' : Hp} (s : Same G G') : ∀ {v : V} {t : Mt}, TAt C G v t → TAt C G' v t := fun h => by
  induction h with
  | mk ha hp hl _ ih => exact .mk (s _ _ ha) (s _ _ hp) hl ih
section
variable {so : So} {w : List Nat} {l : Addr} {b : Bool} {t : List Nat} {d : Nat}
theorem tf_depth : (tf so w l b t d).lookup ("_depth" : Str) = some (.int (d : Nat)) := by unfold tf; rw [lookup_putF, if_pos rfl]
theorem tf_text : (tf so w l b t d).lookup ("text" : Str) = some (.str (S t)) := by unfold tf; rw [lookup_putF, if_neg (by decide +kernel), lookup_putF, if_pos rfl]
theorem tf_marked : (tf so w l b t d).lookup ("marked" : Str) = some (.bl b) := by unfold tf; rw [lookup_putF, if_neg (by decide +kernel), lookup_putF, if_neg (by decide +kernel), lookup_putF, if_pos rfl]
theorem tf_parts : (tf so w l b t d).lookup ("parts" : Str) = some (.ref l) := by unfold tf; rw [lookup_putF, if_neg (by decide +kernel), lookup_putF, if_neg (by decide +kernel), lookup_putF, if_neg (by decide +kernel), lookup_putF, if_pos rfl]
theorem tf_name : (tf so w l b t d).lookup ("name" : Str) = some (.str (S w)) := by unfold tf; rw [lookup_putF, if_neg (by decide +kernel), lookup_putF, if_neg (by decide +kernel), lookup_putF, if_neg (by decide +kernel), lookup_putF, if_neg (by decide +kernel), lookup_putF, if_pos rfl]
theorem tf_kind : (tf so w l b t d).lookup ("kind" : Str) = some (.str so.s) := by unfold tf; rw [lookup_putF, if_neg (by decide +kernel), lookup_putF, if_neg (by decide +kernel), lookup_putF, if_neg (by decide +kernel), lookup_putF, if_neg (by decide +kernel), lookup_putF, if_neg (by decide +kernel), lookup_putF, if_pos rfl]
end
theorem Same.off {G H : Hp} {q : Addr} {o : HO} (s : Same G H) (h : G q = none) : Same G (upd H q o) := fun b u e => by rw [upd_ne (ne_of_none e h)]; exact s b u e
theorem max_is {l : List Nat} {m : Int} (h0 : l.map (fun (n : Nat) => (n : Int)) = [] → m = 0) (h1 : l.map (fun (n : Nat) => (n : Int)) ≠ [] → m ∈ l.map (fun (n : Nat) => (n : Int)) ∧ ∀ k ∈ l.map (fun (n : Nat) => (n : Int)), k ≤ m) : m = ((l.foldr max 0 : Nat) : Int) := by
  cases l with
  | nil => exact h0 rfl
  | cons x r =>
    obtain ⟨hm, ha⟩ := h1 (fun z => by cases z)
    obtain ⟨n, hn, rfl⟩ := List.mem_map.mp hm
    have up := fold_max hn
    have dn : (x :: r).foldr max 0 ≤ n := by
      have all : ∀ y ∈ x :: r, y ≤ n := fun y hy => by
        have := ha _ (List.mem_map_of_mem (f := fun (n : Nat) => (n : Int)) hy)
        omega
      have gen : ∀ q : List Nat, (∀ y ∈ q, y ≤ n) → q.foldr max 0 ≤ n := fun q => by
        induction q with
        | nil => intro _; exact Nat.zero_le _
        | cons z s ih =>
          intro h
          rw [List.foldr_cons]
          exact Nat.max_le.mpr ⟨h z List.mem_cons_self, ih fun y hy => h y (List.mem_cons_of_mem _ hy)⟩
      exact gen _ all
    exact congrArg (fun (n : Nat) => (n : Int)) (Nat.le_antisymm up dn)
end Bs
namespace Bs
open PySem PySem.Spec PyProof.Rows L2 SX
variable {P : Program} {w : World} {K : PySem.W.Frag} {mg : Str → Option Value} {base : Heap}
theorem q_ : ("'" : Str) = S [39] := by decide +kernel
theorem dot_ : ("." : Str) = S [46] := by decide +kernel
theorem at__ : ("@" : Str) = S [64] := by decide +kernel
theorem zero_ : ("0" : Str) = S [48] := by decide +kernel
theorem lp_ : ("(" : Str) = S [40] := by decide +kernel
theorem rp_ : (")" : Str) = S [41] := by decide +kernel
theorem lb_ : ("[" : Str) = S [91] := by decide +kernel
theorem rb_ : ("]" : Str) = S [93] := by decide +kernel
theorem cs_ : (", " : Str) = S [44, 32] := by decide +kernel
theorem em_ : (Str.empty : Str) = S [] := rfl
theorem joinL_len (s : List Nat) : ∀ xs : List (List Nat), (TL.joinL s xs).length ≤ (xs.map List.length).sum + xs.length * s.length
  | [] => by simp [TL.joinL]
  | [p] => by simp [TL.joinL]
  | p :: q :: r => by
    have ih := joinL_len s (q :: r)
    rw [TL.joinL, List.length_append, List.length_append]
    simp only [List.map_cons, List.sum_cons, List.length_cons, Nat.succ_mul] at ih ⊢
    omega
theorem sum_le {n : Nat} : ∀ {xs : List (List Nat)}, (∀ x ∈ xs, x.length ≤ n) → (xs.map List.length).sum ≤ xs.length * n
  | [], _ => by simp
  | x :: r, h => by
    have ih := sum_le (xs := r) fun y hy => h y (List.mem_cons_of_mem _ hy)
    have := h x List.mem_cons_self
    simp only [List.map_cons, List.sum_cons, List.length_cons, Nat.succ_mul]
    omega
theorem lenS (xs : List (List Nat)) : ((xs.map S).map (fun x => x.length)).sum = (xs.map List.length).sum := by rw [SX.lens]
def spText : Sp := fun vs H Q _ => ∃ (so : So) (w : List Nat) (l : Addr) (xs : List (List Nat)) (b : Bool), vs = [.str so.s, .str (S w), .ref l, .bl b] ∧ H l = some (.lst ((xs.map S).map V.str)) ∧ w.length ≤ 8 ∧ xs.length ≤ 3 ∧
  (∀ x ∈ xs, x.length ≤ 600000) ∧ (so = .column ∨ so = .place → xs ≠ []) ∧ Q (.str (S (tx so w xs b))) H
end Bs
namespace Pf
open PySem PySem.Spec PyProof.Rows L2 Bs SX
variable {P : Program} {w : World} {K : PySem.W.Frag} {mg : Str → Option Value} {base : Heap}
local macro_rules | `(tactic| walk_at "no") => `(tactic| refine ite2 (fun c => absurd (V.str.inj (of_decide_eq_true c)) (by decide +kernel)) (fun _ => ?_))
local macro_rules | `(tactic| walk_at "yes") => `(tactic| refine ite2 (fun _ => ?_) (fun c => absurd (decide_eq_true rfl) c))
abbrev N_text_of : List Str := ["kind", "name", "parts", "marked", "inside"]
theorem sc_text_of : FnScope N_text_of ["kind", "name", "parts", "marked"] (defScope s_text_of) := ⟨rfl, rfl, rfl, by decide +kernel, rfl, by decide +kernel, by decide +kernel⟩
theorem c_text_of_terms (T : Tx K mg) : C8.Cal P w K mg base 1 "text_of_terms" spText [] := by
  obtain ⟨fd, F⟩ := f_text_of T
  refine mkCal F (g_text_of_terms T) (F.bindsN fun _ _ _ _ _ _ us hl => match us, hl with | [_, _, _, _], _ => rfl) .nil sc_text_of (fun vs H Q E h => ?_) (fun cdv A outer s H vs Q E hr h => ?_)
  · obtain ⟨so, w, l, xs, b, rfl, _⟩ := h
    rfl
  obtain ⟨so, w, l, xs, b, rfl, hl, hw, hx, hxs, hne, q⟩ := h
  have hu := hu_of hr
  have sl : sizeLine = 16777216 := rfl
  have sj := joinL_len [44, 32] xs
  have ss := sum_le hxs
  have s3 : xs.length * 600000 ≤ 3 * 600000 := Nat.mul_le_mul_right _ hx
  have l2 : ([44, 32] : List Nat).length = 2 := rfl
  rw [l2] at sj
  have head : xs ≠ [] → ∃ x0, atI ((xs.map S).map V.str) 0 = some (.str (S x0)) ∧ xs.headD [] = x0 ∧ x0.length ≤ 600000 := fun h => by
    cases xs with
    | nil => exact absurd rfl h
    | cons x r => exact ⟨x, atI_nat (j := 0) (xs := (((x :: r).map S).map V.str)) rfl, rfl, hxs x List.mem_cons_self⟩
  refine ⟨_, (pss_cons (ps_if (pt_cmpR op_eq (pv 0) pe_str (nomark _)) (pss_one (ps_ret (pe_ifExp (pt_val (pv 3)) (pe_joined (PJ.cons (pe_fmt (pv 1)) (PJ.cons pe_str PJ.nil))) (pv 1)))) pss_nil)
    (pss_cons (ps_if (pt_cmpR op_eq (pv 0) pe_str (nomark _)) (pss_one (ps_ret (pe_joined (PJ.cons (pe_fmt (pe_ix (ix_listK (K := K) rfl) (pv 2) pe_int (fun _ _ => rfl))) (PJ.cons pe_str (PJ.cons (pe_fmt (pv 1)) PJ.nil)))))) pss_nil)
    (pss_cons (ps_if (pt_cmpR op_eq (pv 0) pe_str (nomark _)) (pss_one (ps_ret (pe_joined (PJ.cons pe_str (PJ.cons (pe_fmt (pe_ix (ix_listK (K := K) rfl) (pv 2) pe_int (fun _ _ => rfl))) PJ.nil))))) pss_nil)
    (pss_cons (ps_if (pt_cmpR op_eq (pv 0) pe_str (nomark _)) (pss_one (ps_ret pe_str)) pss_nil)
    (pss_cons (ps_set (i := 4) sc_text_of.nd rfl (Or.inl rfl) (pe_join pe_str (pv 2)))
    (pss_one (ps_ret (pe_ifExp (pt_cmpR op_eq (pv 0) pe_str (nomark _)) (pe_joined (PJ.cons (pe_fmt (pv 1)) (PJ.cons pe_str (PJ.cons (pe_fmt (pv 4)) (PJ.cons pe_str PJ.nil))))) (pe_joined (PJ.cons (pe_fmt (pv 1)) (PJ.cons pe_str (PJ.cons (pe_fmt (pv 4)) (PJ.cons pe_str PJ.nil))))))))))))), ?_⟩
  cases so with
  | row =>
    refine ⟨_, rfl, rfl, _, rfl, ?_⟩
    walk_at "yes"
    refine ⟨_, rfl, b, rfl, ?_⟩
    cases b with
    | true =>
      refine iteT ⟨_, rfl, .inl ⟨S w, rfl, by rw [S_len]; omega, _, rfl, by rw [em_, S_cat, S_len]; simp; omega, "'", rfl, by rw [em_, q_, S_cat, S_cat, S_len]; simp; omega, ?_⟩⟩
      rw [em_, q_, S_cat, S_cat]
      exact q
    | false => exact iteF ⟨_, rfl, q⟩
  | column =>
    obtain ⟨x0, h0, e0, z0⟩ := head (hne (.inl rfl))
    refine ⟨_, rfl, rfl, _, rfl, ?_⟩
    walk_at "no"
    refine ⟨_, rfl, rfl, _, rfl, ?_⟩
    walk_at "yes"
    refine ⟨_, rfl, l, _, 0, _, rfl, rfl, SqL.of hl, h0, .inl ⟨S x0, rfl, by rw [S_len]; omega, _, rfl, by rw [em_, S_cat, S_len]; simp; omega, ".", rfl, by rw [em_, dot_, S_cat, S_cat, S_len]; simp; omega, _, rfl, .inl ⟨S w, rfl, by rw [S_len]; omega, _, rfl, by rw [em_, dot_, S_cat, S_cat, S_cat, S_len]; simp; omega, ?_⟩⟩⟩
    rw [em_, dot_, S_cat, S_cat, S_cat]
    have e : tx .column w xs b = [] ++ x0 ++ [46] ++ w := by rw [← e0]; rfl
    rw [← e]
    exact q
  | place =>
    obtain ⟨x0, h0, e0, z0⟩ := head (hne (.inr rfl))
    refine ⟨_, rfl, rfl, _, rfl, ?_⟩
    walk_at "no"
    refine ⟨_, rfl, rfl, _, rfl, ?_⟩
    walk_at "no"
    refine ⟨_, rfl, rfl, _, rfl, ?_⟩
    walk_at "yes"
    refine ⟨"@", rfl, by rw [em_, at__, S_cat, S_len]; simp; omega, _, rfl, l, _, 0, _, rfl, rfl, SqL.of hl, h0, .inl ⟨S x0, rfl, by rw [S_len]; omega, _, rfl, by rw [em_, at__, S_cat, S_cat, S_len]; simp; omega, ?_⟩⟩
    rw [em_, at__, S_cat, S_cat]
    have e : tx .place w xs b = [] ++ [64] ++ x0 := by rw [← e0]; rfl
    rw [← e]
    exact q
  | zero =>
    refine ⟨_, rfl, rfl, _, rfl, ?_⟩
    walk_at "no"
    refine ⟨_, rfl, rfl, _, rfl, ?_⟩
    walk_at "no"
    refine ⟨_, rfl, rfl, _, rfl, ?_⟩
    walk_at "no"
    refine ⟨_, rfl, rfl, _, rfl, ?_⟩
    walk_at "yes"
    have e : (V.str "0" : V) = V.str (S (tx .zero w xs b)) := congrArg V.str zero_
    show Q (V.str "0") H
    rw [e]
    exact q
  | func =>
    refine ⟨_, rfl, rfl, _, rfl, ?_⟩
    walk_at "no"
    refine ⟨_, rfl, rfl, _, rfl, ?_⟩
    walk_at "no"
    refine ⟨_, rfl, rfl, _, rfl, ?_⟩
    walk_at "no"
    refine ⟨_, rfl, rfl, _, rfl, ?_⟩
    walk_at "no"
    refine ⟨⟨_, rfl⟩, _, rfl, ", ", l, xs.map S, rfl, rfl, .inl (SqL.of hl), by rw [lenS, List.length_map, cs_, S_len, l2]; omega, ?_⟩
    rw [cs_, join_S]
    refine ⟨_, rfl, rfl, _, rfl, ?_⟩
    walk_at "yes"
    refine ⟨_, rfl, .inl ⟨S w, rfl, by rw [S_len]; omega, _, rfl, by rw [em_, S_cat, S_len]; simp; omega, "(", rfl, by rw [em_, lp_, S_cat, S_cat, S_len]; simp; omega, _, rfl, .inl ⟨_, rfl, by rw [S_len]; omega, _, rfl, by rw [em_, lp_, S_cat, S_cat, S_cat, S_len]; simp; omega, ")", rfl, by rw [em_, lp_, rp_, S_cat, S_cat, S_cat, S_cat, S_len]; simp; omega, ?_⟩⟩⟩
    rw [em_, lp_, rp_, S_cat, S_cat, S_cat, S_cat]
    exact q
  | rule =>
    refine ⟨_, rfl, rfl, _, rfl, ?_⟩
    walk_at "no"
    refine ⟨_, rfl, rfl, _, rfl, ?_⟩
    walk_at "no"
    refine ⟨_, rfl, rfl, _, rfl, ?_⟩
    walk_at "no"
    refine ⟨_, rfl, rfl, _, rfl, ?_⟩
    walk_at "no"
    refine ⟨⟨_, rfl⟩, _, rfl, ", ", l, xs.map S, rfl, rfl, .inl (SqL.of hl), by rw [lenS, List.length_map, cs_, S_len, l2]; omega, ?_⟩
    rw [cs_, join_S]
    refine ⟨_, rfl, rfl, _, rfl, ?_⟩
    walk_at "no"
    refine ⟨_, rfl, .inl ⟨S w, rfl, by rw [S_len]; omega, _, rfl, by rw [em_, S_cat, S_len]; simp; omega, "[", rfl, by rw [em_, lb_, S_cat, S_cat, S_len]; simp; omega, _, rfl, .inl ⟨_, rfl, by rw [S_len]; omega, _, rfl, by rw [em_, lb_, S_cat, S_cat, S_cat, S_len]; simp; omega, "]", rfl, by rw [em_, lb_, rb_, S_cat, S_cat, S_cat, S_cat, S_len]; simp; omega, ?_⟩⟩⟩
    rw [em_, lb_, rb_, S_cat, S_cat, S_cat, S_cat]
    exact q
end Pf
namespace Bs
open PySem PySem.Spec PyProof.Rows L2 SX
variable {P : Program} {w : World} {K : PySem.W.Frag} {mg : Str → Option Value} {base : Heap}
theorem ok0 {nm qual : Str} {par : Arguments} {bd : List Stmt} {sco : Scope} {N ps : List Str} {k : Nat} {sp : Sp} {kws : List (Str × V)} {dvs' : List V} {a : Addr} {fd : FuncData}
    (F : FunD K nm qual par bd sco dvs' kws a fd) (S : FnScope N ps sco) (len : ∀ vs H Q E, sp vs H Q E → vs.length = ps.length)
    (body : ∀ (cdv : Value) (A : Around) (outer : List Env) (s : Shared) (H : Hp) (vs : List V) (Q : VK) (E : XK), Room k (A.deeper (envOfC qual sco s.heap.objs.size a cdv)) → sp vs H Q E →
      ∃ t, PSs (cxOf C8.CX0 P w K mg base N qual sco a cdv A outer s H E).nox bd t ∧ t { nx := fun _ H' => Q .non H', rt := Q } (start N vs) H) : FnOk P w K mg base C8.CX0 (k + 1) a fd ps sp :=
  F.ok S len fun cdv A outer s H vs Q E hr h => let ⟨t, h1, h2⟩ := body cdv A outer s H vs Q E hr h
    ⟨t, h1.nox, h2⟩
theorem upd_swap {H : Hp} {p l : Addr} {A B L : HO} (h : p ≠ l) : upd (upd (upd H p A) l L) p B = upd (upd H l L) p B := by
  funext b
  unfold upd
  by_cases c : b = p
  · simp [c]
  · simp [c]
theorem row_dec (so : So) : decide (V.str so.s = V.str "row") = decide (so = .row) := by
  cases so with
  | row => exact decide_eq_true rfl
  | _ => exact decide_eq_false fun h => absurd (V.str.inj h) (by decide +kernel)
theorem take_one {α : Type} {ts : List α} {i : Nat} {t : α} (h : ts[i]? = some t) : ts.take (i + 1) = ts.take i ++ [t] := by
  rw [List.take_add_one, h]
  rfl
theorem get_pair {α β : Type} {xs : List α} {ys : List β} {i : Nat} {x : α} (hl : xs.length = ys.length) (h : xs[i]? = some x) : ∃ y, ys[i]? = some y ∧ y ∈ ys := by
  have hi := (List.getElem?_eq_some_iff.mp h).1
  exact ⟨ys[i], List.getElem?_eq_getElem (by omega), List.getElem_mem (by omega)⟩
/-- parts that a term of this kind may have, as far as the program leans on it -/
structure Shp (so : So) (w : List Nat) (ts : List Mt) : Prop where
  w8 : w.length ≤ 8
  t3 : ts.length ≤ 3
  tx : ∀ t ∈ ts, t.txt.length ≤ 600000
  ne : so = .column ∨ so = .place → ts ≠ []
def spInit (K : PySem.W.Frag) (C : Addr) : Sp := fun vs H Q _ => ∃ (G : Hp) (p dx pa : Addr) (so : So) (w : List Nat) (b : Bool) (pv : List V) (ts : List Mt), vs = [.ref p, .str so.s, .str (S w), .ref pa, .bl b] ∧ Same G H ∧ G p = none ∧ H p = some (.ins C dx []) ∧
  (SqL K H pa pv ∨ SqT K H pa pv) ∧ pv.length = ts.length ∧ (∀ (i : Nat) (v : V) (t : Mt), pv[i]? = some v → ts[i]? = some t → TAt C G v t) ∧ Shp so w ts ∧
  ∀ (H' : Hp) (l : Addr), Kp p H H' → H l = none → H' l = some (.lst pv) → H' p = some (.ins C dx (tf so w l (decide (so = .row) && b) (tx so w (ts.map Mt.txt) (decide (so = .row) && b)) (1 + (ts.map Mt.dep).foldr max 0))) → Q .non H'
end Bs
namespace Pf
open PySem PySem.Spec PyProof.Rows L2 Bs SX
variable {P : Program} {w : World} {K : PySem.W.Frag} {mg : Str → Option Value} {base : Heap}
abbrev CT (K : PySem.W.Frag) : Addr := He.ga K "Term"
theorem scope_depth : FnScope ["self"] ["self"] (defScope s_Term_depth) := ⟨rfl, rfl, rfl, by decide +kernel, rfl, by decide +kernel, by decide +kernel⟩
/-- the property's getter -/
theorem o_depth (T : Tx K mg) : ∃ fd, FnOk P w K mg base C8.CX0 1 (Hd.inRec "property" "Term" "depth" K) fd ["self"] (getSp (CT K) "_depth") ∧ Binds K fd ["self"] [] := by
  obtain ⟨fd, F⟩ := f_Term_depth T
  have b := F.bindsN (ps := ["self"]) fun _ _ _ _ _ _ us hl => match us, hl with | [_], _ => rfl
  obtain ⟨oc, od, dV, kV, doc, pm, an, cdv, ct, osl, rfl, lk, hcd, _, _⟩ := F.ex
  exact ⟨_, fn_getter (N := ["self"]) lk hcd scope_depth rfl rfl (cls_Term_ T) (noat_Term_depth T), b⟩
abbrev N_Term_init : List Str := ["self", "kind", "name", "parts", "marked", "part"]
theorem sc_Term_init : FnScope N_Term_init ["self", "kind", "name", "parts", "marked"] (defScope s_Term_init) := ⟨rfl, rfl, rfl, by decide +kernel, rfl, by decide +kernel, by decide +kernel⟩
theorem o_init (T : Tx K mg) : ∃ fd, FnOk P w K mg base C8.CX0 4 (He.ma K (CT K) "__init__") fd ["self", "kind", "name", "parts", "marked"] (spInit K (CT K)) ∧ FunD K "__init__" "Term.__init__" (defArgs s_Term_init) (defBody s_Term_init) (defScope s_Term_init) [.bl false] [] (He.ma K (CT K) "__init__") fd := by
  obtain ⟨fd, F⟩ := f_Term_init T
  refine ⟨fd, ?_, F⟩
  have c_text_of_terms := c_text_of_terms (P := P) (w := w) (base := base) T
  obtain ⟨fdd, FD, bD⟩ := o_depth (P := P) (w := w) (base := base) T
  refine ok0 F sc_Term_init (fun vs H Q E h => ?_) (fun cdv A outer s H vs Q E hr h => ?_)
  · obtain ⟨G, p, dx, pa, so, w, b, pv, ts, rfl, _⟩ := h
    rfl
  obtain ⟨G, p, dx, pa, so, w, b, pv', ts, rfl, hG, hGp, hp, hpa, hlen, hts, sh, q⟩ := h
  have hu := hu_of hr
  have cls_depth := cls_Term_ T
  have pp_depth := Hd.propB_ok (ex_2 T)
  have F_depth := FD
  have b_depth := bD
  have C0 := cls_Term_ T
  have sl : sizeLine = 16777216 := rfl
  refine ⟨_, (pss_cons (ps_fld (pv 0) (pv 1) rfl)
    (pss_cons (ps_fld (pv 0) (pv 2) rfl)
    (pss_cons (ps_fld (pv 0) (pe_callTy call_list_of (by rfl) (z_list T) boot_list (pa_cons (pv 3) pa_nil)) rfl)
    (C8.pss_cut (ps_fld (pv 0) (pe_and (pe_cmpR op_eq (pv 1) pe_str (nomark _)) (pe_one (pe_callTy call_bool1 (by rfl) (z_bool T) boot_bool (pa_cons (pv 4) pa_nil)))) rfl)
    (pss_cons (ps_fld (pv 0) (C8.pe_c c_text_of_terms hr (by first | decide | omega) rfl (pa_cons (pv 1) (pa_cons (pv 2) (pa_cons (pe_lc (own := [("part", 5)]) rfl sc_Term_init.nd (pi_listK (K := K) rfl (pe_fldK (K := K) rfl (pv 0) (by rfl))) (blkOk_by (N := N_Term_init) (sc := defScope s_Term_init) (by decide +kernel)) (fun _ _ _ _ _ => (pg_name (i := 5) sc_Term_init.nd rfl (Or.inl rfl))) (fun _ _ _ _ _ => pts_nil) (fun _ _ _ _ _ => (pe_fldK (K := K) rfl (pv 5) (by rfl)))) (pa_cons (pe_fldK (K := K) rfl (pv 0) (by rfl)) pa_nil))))) rfl)
    (pss_one (ps_fld (pv 0) (pe_op op_add pe_int (pe_callBK (cr_maxD rfl hu) (by rfl) (z_max T) boot_max (pa_cons (pe_lc (own := [("part", 5)]) rfl sc_Term_init.nd (pi_listK (K := K) rfl (pe_fldK (K := K) rfl (pv 0) (by rfl))) (blkOk_by (N := N_Term_init) (sc := defScope s_Term_init) (by decide +kernel)) (fun _ _ _ _ _ => (pg_name (i := 5) sc_Term_init.nd rfl (Or.inl rfl))) (fun _ _ _ _ _ => pts_nil) (fun _ _ _ _ _ => (pe_prop (E := C8.E0) (pv 5) cls_depth pp_depth F_depth (hr.mono (by decide)) b_depth .nil C8.pass0 rfl))) pa_nil) (pk_cons pe_int pk_nil))) rfl))))))), ?_⟩
  refine ⟨_, rfl, _, rfl, p, CT K, dx, [], rfl, hp, C0, noat_Term_kind T, (by show 0 < 1000; decide), ?_⟩
  refine ⟨_, rfl, _, rfl, p, CT K, dx, _, rfl, upd_same, C0, noat_Term_name T, (by show 1 < 1000; decide), ?_⟩
  rw [upd_upd]
  have k1 : Kp p H (upd H p (.ins (CT K) dx (putF "name" (.str (S w)) (putF "kind" (.str so.s) [])))) := Kp.upd
  have hpap : pa ≠ p ∨ ∀ H' : Hp, SqL K H' pa pv' ∨ SqT K H' pa pv' := by
    rcases hpa with ((h | ⟨o, h⟩) | h) | ((h | ⟨o, h⟩) | h)
    · exact .inl (ne_of h hp (by intro z; cases z))
    · exact .inl (ne_of h hp (by intro z; cases z))
    · exact .inr fun _ => .inl (.inr h)
    · exact .inl (ne_of h hp (by intro z; cases z))
    · exact .inl (ne_of h hp (by intro z; cases z))
    · exact .inr fun _ => .inr (.inr h)
  have hpa1 : SqL K (upd H p (.ins (CT K) dx (putF "name" (.str (S w)) (putF "kind" (.str so.s) [])))) pa pv' ∨ SqT K (upd H p (.ins (CT K) dx (putF "name" (.str (S w)) (putF "kind" (.str so.s) [])))) pa pv' := by
    rcases hpap with ne | all
    · rcases hpa with h | h
      · exact .inl (SqL.kp h k1 fun _ _ => ne)
      · exact .inr (SqT.kp h k1 fun _ _ => ne)
    · exact all _
  refine ⟨_, rfl, pa, pv', rfl, hpa1, fun l hl => ?_⟩
  have npl : p ≠ l := ne_of_none upd_same hl
  have hl0 : H l = none := by rw [upd_ne npl.symm] at hl; exact hl
  have hGl : G l = none := hG.free hl0
  refine ⟨_, rfl, p, CT K, dx, _, rfl, (by rw [upd_ne npl]; exact upd_same), C0, noat_Term_parts T, (by show 2 < 1000; decide), ?_⟩
  rw [upd_swap npl]
  have hG1 : Same G (upd H l (.lst pv')) := Same.off hG hGl
  have hlst : upd H l (.lst pv') l = some (.lst pv') := upd_same
  have hk1 : Kp p H (upd H l (.lst pv')) := (Kp.refl p H).new hl0
  generalize upd H l (.lst pv') = Hl at hG1 hlst hk1
  obtain ⟨bm, ebm⟩ : ∃ bm, bm = (decide (so = .row) && b) := ⟨_, rfl⟩
  rw [← ebm] at q
  refine ⟨fun σ' H' => σ' = start N_Term_init [.ref p, .str so.s, .str (S w), .ref pa, .bl b] ∧ H' = upd Hl p (.ins (CT K) dx (putF "marked" (.bl bm) (putF "parts" (.ref l) (putF "name" (.str (S w)) (putF "kind" (.str so.s) []))))), ?_, ?_⟩
  · refine ⟨_, rfl, rfl, _, rfl, ?_⟩
    rw [row_dec]
    refine ite2 (fun c => ?_) (fun c => ?_)
    · refine ⟨_, rfl, .inr ⟨b, rfl, _, rfl, p, CT K, dx, _, rfl, upd_same, C0, noat_Term_marked T, (by show 3 < 1000; decide), rfl, ?_⟩⟩
      rw [upd_upd, ebm, c, Bool.true_and]
    · refine ⟨_, rfl, p, CT K, dx, _, rfl, upd_same, C0, noat_Term_marked T, (by show 3 < 1000; decide), rfl, ?_⟩
      rw [upd_upd, ebm, Bool.eq_false_iff.mpr c, Bool.false_and]
  rintro σ' H' ⟨rfl, rfl⟩
  have lk_parts : ∀ u : List (Str × V), (putF "marked" (.bl bm) (putF "parts" (.ref l) u)).lookup ("parts" : Str) = some (.ref l) := fun u => by rw [lookup_putF, if_neg (by decide +kernel), lookup_putF, if_pos rfl]
  have lk_marked : ∀ u : List (Str × V), (putF "marked" (.bl bm) u).lookup ("marked" : Str) = some (.bl bm) := fun u => by rw [lookup_putF, if_pos rfl]
  have nlp : l ≠ p := npl.symm
  refine ⟨_, rfl, _, rfl, _, rfl, p, CT K, dx, _, _, rfl, upd_same, C0, noat_Term_parts T, lk_parts _, l, rfl, ⟨pv', SqL.of (by rw [upd_ne nlp]; exact hlst)⟩, fun D hD => ?_⟩
  have nDp : D ≠ p := (ne_of_none upd_same hD).symm
  have hD1 : Hl D = none := by rw [upd_ne nDp] at hD; exact hD
  have nlD : l ≠ D := ne_of_none hlst hD1
  have hGD : G D = none := hG1.free hD1
  generalize eF4 : putF "marked" (.bl bm) (putF "parts" (.ref l) (putF "name" (.str (S w)) (putF "kind" (.str so.s) []))) = F4 at *
  refine lc_list (K := K) (a := l) (xs := pv') (fun i H' => H' = upd (upd Hl p (.ins (CT K) dx F4)) D (.lst ((((ts.take i).map Mt.txt).map S).map V.str))) rfl ?_ ?_ ?_
  · rintro i H' _ rfl
    exact SqL.of (by rw [upd_ne nlD, upd_ne nlp]; exact hlst)
  · rintro i x H' hx rfl
    obtain ⟨t, ht, mt⟩ := get_pair hlen hx
    have tt := hts i x t hx ht
    cases tt with
    | @mk a' dx' l' so' w' vs' ts' b' ha' hp' hl' h' =>
    have hGH : Same G (upd (upd Hl p (.ins (CT K) dx F4)) D (.lst ((((ts.take i).map Mt.txt).map S).map V.str))) := Same.off (Same.off hG1 hGp) hGD
    refine ⟨rfl, ?_⟩
    unfold tYes
    refine iteT ⟨_, rfl, a', CT K, dx', _, _, rfl, hGH _ _ ha', C0, noat_Term_text T, tf_text, _, upd_same, ?_, ?_⟩
    · have := sh.t3
      simp only [List.length_map, List.length_take]
      omega
    · rw [upd_upd, take_one ht, List.map_append, List.map_append, List.map_append]
      rw [← Mt.txt_mk]
      rfl
  rintro H' rfl
  have etake : ts.take pv'.length = ts := by rw [hlen, List.take_length]
  rw [etake]
  refine ⟨_, rfl, p, CT K, dx, _, _, rfl, (by rw [upd_ne nDp.symm]; exact upd_same), C0, noat_Term_marked T, (by rw [← eF4]; exact lk_marked _), so, w, D, ts.map Mt.txt, bm, rfl, upd_same, sh.w8, by rw [List.length_map]; exact sh.t3, ?_, ?_, ?_⟩
  · intro x hx
    obtain ⟨t, ht, rfl⟩ := List.mem_map.mp hx
    exact sh.tx t ht
  · intro h e
    exact sh.ne h (List.map_eq_nil_iff.mp e)
  refine ⟨_, rfl, p, CT K, dx, _, rfl, (by rw [upd_ne nDp.symm]; exact upd_same), C0, noat_Term_text T, (by rw [← eF4]; show 4 < 1000; decide), ?_⟩
  rw [upd_swap nDp.symm]
  have hG2 : Same G (upd Hl D (.lst (((ts.map Mt.txt).map S).map V.str))) := Same.off hG1 hGD
  have hlst2 : upd Hl D (.lst (((ts.map Mt.txt).map S).map V.str)) l = some (.lst pv') := by rw [upd_ne nlD]; exact hlst
  have hk2 : Kp p H (upd Hl D (.lst (((ts.map Mt.txt).map S).map V.str))) := hk1.new hD1
  generalize upd Hl D (.lst (((ts.map Mt.txt).map S).map V.str)) = Hm at hG2 hlst2 hk2
  have lk_parts5 : (putF "text" (.str (S (tx so w (ts.map Mt.txt) bm))) F4).lookup ("parts" : Str) = some (.ref l) := by
    rw [lookup_putF, if_neg (by decide +kernel), ← eF4]; exact lk_parts _
  have e5 : putF "text" (.str (S (tx so w (ts.map Mt.txt) bm))) F4 = putF "text" (.str (S (tx so w (ts.map Mt.txt) bm))) (putF "marked" (.bl bm) (putF "parts" (.ref l) (putF "name" (.str (S w)) (putF "kind" (.str so.s) [])))) := by rw [eF4]
  generalize putF "text" (.str (S (tx so w (ts.map Mt.txt) bm))) F4 = F5 at *
  refine ⟨_, rfl, p, CT K, dx, _, _, rfl, upd_same, C0, noat_Term_parts T, lk_parts5, l, rfl, ⟨pv', SqL.of (by rw [upd_ne nlp]; exact hlst2)⟩, fun D2 hD2 => ?_⟩
  have n2p : D2 ≠ p := (ne_of_none upd_same hD2).symm
  have hD21 : Hm D2 = none := by rw [upd_ne n2p] at hD2; exact hD2
  have nlD2 : l ≠ D2 := ne_of_none hlst2 hD21
  have hGD2 : G D2 = none := hG2.free hD21
  refine lc_list (K := K) (a := l) (xs := pv') (fun i H' => H' = upd (upd Hm p (.ins (CT K) dx F5)) D2 (.lst ((((ts.take i).map Mt.dep).map fun (n : Nat) => (n : Int)).map V.int))) rfl ?_ ?_ ?_
  · rintro i H' _ rfl
    exact SqL.of (by rw [upd_ne nlD2, upd_ne nlp]; exact hlst2)
  · rintro i x H' hx rfl
    obtain ⟨t, ht, mt⟩ := get_pair hlen hx
    have tt := hts i x t hx ht
    cases tt with
    | @mk a' dx' l' so' w' vs' ts' b' ha' hp' hl' h' =>
    have hGH : Same G (upd (upd Hm p (.ins (CT K) dx F5)) D2 (.lst ((((ts.take i).map Mt.dep).map fun (n : Nat) => (n : Int)).map V.int))) := Same.off (Same.off hG2 hGp) hGD2
    refine ⟨rfl, ?_⟩
    unfold tYes
    refine iteT ⟨_, rfl, a', dx', _, rfl, hGH _ _ ha', a', dx', _, _, rfl, hGH _ _ ha', tf_depth, _, upd_same, ?_, ?_⟩
    · have := sh.t3
      simp only [List.length_map, List.length_take]
      omega
    · rw [upd_upd, take_one ht, List.map_append, List.map_append, List.map_append]
      rw [← Mt.dep_mk so' w' ts' b']
      rfl
  rintro H' rfl
  rw [etake]
  refine ⟨D2, (ts.map Mt.dep).map (fun (n : Nat) => (n : Int)), 0, rfl, rfl, SqL.of upd_same, fun m m0 m1 => ?_⟩
  have em := max_is m0 m1
  refine ⟨_, _, rfl, rfl, _, rfl, p, CT K, dx, _, rfl, (by rw [upd_ne n2p.symm]; exact upd_same), C0, noat_Term_depth T, (by rw [e5]; show 5 < 1000; decide), ?_⟩
  rw [upd_swap n2p.symm]
  refine q _ l ?_ hl0 (by rw [upd_ne nlp, upd_ne nlD2]; exact hlst2) ?_
  · exact (hk2.new hD21).put
  · rw [upd_same, em, e5]
    have e6 : (1 : Int) + (((ts.map Mt.dep).foldr max 0 : Nat) : Int) = ((1 + (ts.map Mt.dep).foldr max 0 : Nat) : Int) := by omega
    dsimp only
    rw [e6]
    rfl
end Pf
namespace Bs
open PySem PySem.Spec PyProof.Rows L2 SX
variable {P : Program} {w : World} {K : PySem.W.Frag} {mg : Str → Option Value} {base : Heap}
theorem make_term {G H : Hp} {C pa : Addr} {so : So} {w : List Nat} {b : Bool} {pv : List V} {ts : List Mt} {Q : VK} {E : XK} (hG : Same G H) (hpa : SqL K H pa pv ∨ SqT K H pa pv) (hlen : pv.length = ts.length)
    (hts : ∀ (i : Nat) (v : V) (t : Mt), pv[i]? = some v → ts[i]? = some t → TAt C G v t) (sh : Shp so w ts)
    (q : ∀ (G' H' : Hp) (x : Addr), Step none G H G' H' → TAt C G' (.ref x) (.mk so w ts (decide (so = .row) && b)) → H x = none → Q (.ref x) H') :
    ∀ x dx, H x = none → H dx = none → dx ≠ x → spInit K C [.ref x, .str so.s, .str (S w), .ref pa, .bl b] (upd (upd H dx (.own x)) x (.ins C dx [])) (fun v H2 => v = .non ∧ Q (.ref x) H2) E := by
  intro x dx hx hdx ne
  have hx1 : upd H dx (.own x) x = none := by rw [upd_ne (fun z => ne z.symm)]; exact hx
  have s1 : Same H (upd (upd H dx (.own x)) x (.ins C dx [])) := Same.new (Same.new (Same.refl H) hdx) hx1
  have hGx : G x = none := hG.free hx
  refine ⟨G, x, dx, pa, so, w, b, pv, ts, rfl, hG.trans s1, hGx, upd_same, ?_, hlen, hts, sh, fun H' l kp hl hl' hx' => ⟨rfl, ?_⟩⟩
  · rcases hpa with h | h
    · exact .inl (s1.seq h)
    · refine .inr ?_
      rcases h with (h | ⟨o, h⟩) | h
      · exact .inl (.inl (s1 _ _ h))
      · exact .inl (.inr ⟨o, s1 _ _ h⟩)
      · exact .inr h
  have hl0 : H l = none := s1.free hl
  have nlx : l ≠ x := fun z => by rw [z, upd_same] at hl; cases hl
  have hGl : G l = none := hG.free hl0
  have gg : Same G (upd (upd G l (.lst pv)) x (.ins C dx (tf so w l (decide (so = .row) && b) (tx so w (ts.map Mt.txt) (decide (so = .row) && b)) (1 + (ts.map Mt.dep).foldr max 0)))) :=
    Same.off (Same.off (Same.refl G) hGl) hGx
  refine q _ H' x ⟨gg, fun c o e => ?_, fun c hc => ?_, fun c o e _ => ?_, fun c z => by cases z⟩ (.mk upd_same (by rw [upd_ne nlx]; exact upd_same) hlen fun i v t h1 h2 => (hts i v t h1 h2).same gg) hx
  · by_cases e1 : c = x
    · subst e1; rw [upd_same] at e; rw [hx']; exact e
    · rw [upd_ne e1] at e
      by_cases e2 : c = l
      · subst e2; rw [upd_same] at e; rw [hl']; exact e
      · rw [upd_ne e2] at e
        exact kp c o (s1 c o (hG c o e)) e1
  · by_cases e1 : c = x
    · subst e1; exact .inr hx
    · rw [upd_ne e1] at hc
      by_cases e2 : c = l
      · subst e2; exact .inr hl0
      · rw [upd_ne e2] at hc; exact .inl hc
  · have e1 : c ≠ x := fun z => by rw [z, hx] at e; cases e
    exact kp c o (s1 c o e) e1
def spRow (C : Addr) : Sp := fun vs H Q _ => ∃ (G : Hp) (w : List Nat) (b : Bool), vs = [.str (S w), .bl b] ∧ Same G H ∧ w.length ≤ 8 ∧
  ∀ (G' H' : Hp) (x : Addr), Step none G H G' H' → TAt C G' (.ref x) (.mk .row w [] b) → H x = none → Q (.ref x) H'
def spCol (C : Addr) : Sp := fun vs H Q _ => ∃ (G : Hp) (t w : List Nat) (b : Bool), vs = [.str (S t), .str (S w), .bl b] ∧ Same G H ∧ t.length ≤ 8 ∧ w.length ≤ 8 ∧
  ∀ (G' H' : Hp) (x : Addr), Step none G H G' H' → TAt C G' (.ref x) (.mk .column w [.mk .row t [] b] false) → H x = none → Q (.ref x) H'
def spPlace (C : Addr) : Sp := fun vs H Q _ => ∃ (G : Hp) (t : List Nat) (b : Bool), vs = [.str (S t), .bl b] ∧ Same G H ∧ t.length ≤ 8 ∧
  ∀ (G' H' : Hp) (x : Addr), Step none G H G' H' → TAt C G' (.ref x) (.mk .place [] [.mk .row t [] b] false) → H x = none → Q (.ref x) H'
def spZero (C : Addr) : Sp := fun vs H Q _ => ∃ (G : Hp), vs = [] ∧ Same G H ∧
  ∀ (G' H' : Hp) (x : Addr), Step none G H G' H' → TAt C G' (.ref x) (.mk .zero [] [] false) → H x = none → Q (.ref x) H'
def spEqT (C : Addr) (K : PySem.W.Frag) : Addr → V → Bool → Hp → Prop := fun a y r H => ∃ (G : Hp) (m : Mt), Same G H ∧ TAt C G (.ref a) m ∧
  ((∃ m2, TAt C G y m2 ∧ r = decide (m.txt = m2.txt)) ∨ (r = false ∧ ∃ t : String, t ∈ ["NoneType", "bool", "int", "str", "list", "tuple", "dict"] ∧ TyX K H y (.type t)))
def spStrT (C : Addr) : Addr → Str → Hp → Prop := fun a x H => ∃ (G : Hp) (m : Mt), Same G H ∧ TAt C G (.ref a) m ∧ x = S m.txt
theorem TAt.obj {C : Addr} {G : Hp} {v : V} {m : Mt} (h : TAt C G v m) : ∃ (a dx l : Addr) (so : So) (w : List Nat) (ts : List Mt) (b : Bool), v = .ref a ∧ m = .mk so w ts b ∧ G a = some (.ins C dx (tf so w l b m.txt m.dep)) := by
  cases h with
  | @mk a dx l so w vs ts b ha hp hl h => exact ⟨a, dx, l, so, w, ts, b, rfl, rfl, by rw [Mt.txt_mk, Mt.dep_mk]; exact ha⟩
end Bs
namespace Pf
open PySem PySem.Spec PyProof.Rows L2 Bs SX
variable {P : Program} {w : World} {K : PySem.W.Frag} {mg : Str → Option Value} {base : Heap}
theorem m_Term (T : Tx K mg) : C8.Mak P w K mg base 4 "Term" (CT K) (spInit K (CT K)) [] := by
  obtain ⟨fd, O, F⟩ := o_init (P := P) (w := w) (base := base) T
  obtain ⟨ds, hv, hb⟩ := F.binds1 (ps := ["self", "kind", "name", "parts", "marked"]) 5 1 (by simp) (by rfl) fun _ _ _ _ _ _ _ us its hl hi => match us, its, hl, hi with | [_, _, _, _, _], [_], _, _ => ⟨_, rfl, rfl⟩
  exact ⟨_, fd, _, ds, mkr_Term_ T, O, g_Term T, hb, hv⟩
theorem m_Term3 (T : Tx K mg) : C8.Mak P w K mg base 4 "Term" (CT K) (spInit K (CT K)) [.bl false] := by
  obtain ⟨fd, O, F⟩ := o_init (P := P) (w := w) (base := base) T
  obtain ⟨ds, hv, hb⟩ := F.binds1 (ps := ["self", "kind", "name", "parts", "marked"]) 4 0 (by simp) (by rfl) fun _ _ _ _ _ _ _ us its hl hi => match us, its, hl, hi with | [_, _, _, _], [_], _, _ => ⟨_, rfl, rfl⟩
  exact ⟨_, fd, _, ds, mkr_Term_ T, O, g_Term T, hb, hv⟩
abbrev N_row_term : List Str := ["table", "marked"]
theorem sc_row_term : FnScope N_row_term ["table", "marked"] (defScope s_row_term) := ⟨rfl, rfl, rfl, by decide +kernel, rfl, by decide +kernel, by decide +kernel⟩
theorem o_row_term (T : Tx K mg) : ∃ fd, FnOk P w K mg base C8.CX0 6 (He.ga K "row_term") fd ["table", "marked"] (spRow (CT K)) ∧ FunD K "row_term" "row_term" (defArgs s_row_term) (defBody s_row_term) (defScope s_row_term) [.bl false] [] (He.ga K "row_term") fd := by
  obtain ⟨fd, F⟩ := f_row_term T
  have m_Term := m_Term (P := P) (w := w) (base := base) T
  refine ⟨fd, ok0 F sc_row_term (fun vs H Q E h => ?_) (fun cdv A outer s H vs Q E hr h => ?_), F⟩
  · obtain ⟨G, w, b, rfl, _⟩ := h
    rfl
  obtain ⟨G, w, b, rfl, hG, hw, q⟩ := h
  refine ⟨_, (pss_one (ps_ret (C8.pe_mk m_Term hr (by first | decide | omega) rfl (pa_cons pe_str (pa_cons (pv 0) (pa_cons (pe_lst pa_nil) (pa_cons (pv 1) pa_nil))))))), ?_⟩
  refine ⟨_, rfl, Nat.zero_le _, fun l hl => ⟨_, rfl, ?_⟩⟩
  have s1 : Step none G H G (upd H l (.lst [])) := (Step.refl hG).loc hl (hG.free hl)
  refine make_term (so := .row) (w := w) (b := b) (pv := []) (ts := []) s1.gh (.inl (SqL.of upd_same)) rfl (fun i v t h => by cases h) ⟨hw, Nat.zero_le _, (fun t ht => by cases ht), (fun h => by rcases h with h | h <;> cases h)⟩ fun G' H' x s2 ht hx => ?_
  exact q G' H' x (s1.trans s2) ht (s1.free hx)
theorem c_row_term (T : Tx K mg) : C8.Cal P w K mg base 6 "row_term" (spRow (CT K)) [] := by
  obtain ⟨fd, O, F⟩ := o_row_term (P := P) (w := w) (base := base) T
  obtain ⟨ds, hv, hb⟩ := F.binds1 (ps := ["table", "marked"]) 2 1 (by simp) (by rfl) fun _ _ _ _ _ _ _ us its hl hi => match us, its, hl, hi with | [_, _], [_], _, _ => ⟨_, rfl, rfl⟩
  exact ⟨_, fd, _, ds, O, g_row_term T, F.kp, hb, hv⟩
theorem c_row_term1 (T : Tx K mg) : C8.Cal P w K mg base 6 "row_term" (spRow (CT K)) [.bl false] := by
  obtain ⟨fd, O, F⟩ := o_row_term (P := P) (w := w) (base := base) T
  obtain ⟨ds, hv, hb⟩ := F.binds1 (ps := ["table", "marked"]) 1 0 (by simp) (by rfl) fun _ _ _ _ _ _ _ us its hl hi => match us, its, hl, hi with | [_], [_], _, _ => ⟨_, rfl, rfl⟩
  exact ⟨_, fd, _, ds, O, g_row_term T, F.kp, hb, hv⟩
theorem row_txt (t : List Nat) (b : Bool) (h : t.length ≤ 8) : (Mt.mk .row t [] b).txt.length ≤ 9 := by
  rw [Mt.txt_mk]
  unfold tx
  simp only
  split
  · rw [List.length_append, List.length_singleton]; omega
  · omega
theorem one_row {C : Addr} {G : Hp} {x : Addr} {t : Mt} (h : TAt C G (.ref x) t) : ∀ (i : Nat) (v : V) (u : Mt), [V.ref x][i]? = some v → [t][i]? = some u → TAt C G v u := fun i v u h1 h2 => by
  cases i with
  | zero => cases h1; cases h2; exact h
  | succ i => cases h1
abbrev N_column_term : List Str := ["table", "name", "marked"]
theorem sc_column_term : FnScope N_column_term ["table", "name", "marked"] (defScope s_column_term) := ⟨rfl, rfl, rfl, by decide +kernel, rfl, by decide +kernel, by decide +kernel⟩
theorem o_column_term (T : Tx K mg) : ∃ fd, FnOk P w K mg base C8.CX0 7 (He.ga K "column_term") fd ["table", "name", "marked"] (spCol (CT K)) ∧ FunD K "column_term" "column_term" (defArgs s_column_term) (defBody s_column_term) (defScope s_column_term) [.bl false] [] (He.ga K "column_term") fd := by
  obtain ⟨fd, F⟩ := f_column_term T
  have m_Term3 := m_Term3 (P := P) (w := w) (base := base) T
  have c_row_term := c_row_term (P := P) (w := w) (base := base) T
  refine ⟨fd, ok0 F sc_column_term (fun vs H Q E h => ?_) (fun cdv A outer s H vs Q E hr h => ?_), F⟩
  · obtain ⟨G, t, w, b, rfl, _⟩ := h
    rfl
  obtain ⟨G, t, w, b, rfl, hG, ht, hw, q⟩ := h
  refine ⟨_, (pss_one (ps_ret (C8.pe_mk m_Term3 hr (by first | decide | omega) rfl (pa_cons pe_str (pa_cons (pv 1) (pa_cons (pe_lst (pa_cons (C8.pe_c c_row_term hr (by first | decide | omega) rfl (pa_cons (pv 0) (pa_cons (pv 2) pa_nil))) pa_nil)) pa_nil)))))), ?_⟩
  refine ⟨_, rfl, _, rfl, _, rfl, G, t, b, rfl, hG, ht, fun G1 H1 x s1 tx hx => ?_⟩
  refine ⟨by show 1 ≤ sizeLine; decide, fun l hl => ?_⟩
  have s2 := s1.loc (q := l) (o := .lst [.ref x]) (s1.free hl) (s1.gh.free hl)
  refine make_term (so := .column) (w := w) (b := false) (pv := [.ref x]) (ts := [.mk .row t [] b]) s2.gh (.inl (SqL.of upd_same)) rfl (one_row tx) ⟨hw, by simp, (fun u hu => by
    rw [List.mem_singleton.mp hu]; exact Nat.le_trans (row_txt t b ht) (by decide)), (fun _ h => by cases h)⟩ fun G' H' y s3 hy hny => ?_
  exact q G' H' y (s2.trans s3) hy (s2.free hny)
theorem c_column_term (T : Tx K mg) : C8.Cal P w K mg base 7 "column_term" (spCol (CT K)) [] := by
  obtain ⟨fd, O, F⟩ := o_column_term (P := P) (w := w) (base := base) T
  obtain ⟨ds, hv, hb⟩ := F.binds1 (ps := ["table", "name", "marked"]) 3 1 (by simp) (by rfl) fun _ _ _ _ _ _ _ us its hl hi => match us, its, hl, hi with | [_, _, _], [_], _, _ => ⟨_, rfl, rfl⟩
  exact ⟨_, fd, _, ds, O, g_column_term T, F.kp, hb, hv⟩
abbrev N_place_term : List Str := ["table", "marked"]
theorem sc_place_term : FnScope N_place_term ["table", "marked"] (defScope s_place_term) := ⟨rfl, rfl, rfl, by decide +kernel, rfl, by decide +kernel, by decide +kernel⟩
theorem o_place_term (T : Tx K mg) : ∃ fd, FnOk P w K mg base C8.CX0 7 (He.ga K "place_term") fd ["table", "marked"] (spPlace (CT K)) ∧ FunD K "place_term" "place_term" (defArgs s_place_term) (defBody s_place_term) (defScope s_place_term) [.bl false] [] (He.ga K "place_term") fd := by
  obtain ⟨fd, F⟩ := f_place_term T
  have m_Term3 := m_Term3 (P := P) (w := w) (base := base) T
  have c_row_term := c_row_term (P := P) (w := w) (base := base) T
  refine ⟨fd, ok0 F sc_place_term (fun vs H Q E h => ?_) (fun cdv A outer s H vs Q E hr h => ?_), F⟩
  · obtain ⟨G, t, b, rfl, _⟩ := h
    rfl
  obtain ⟨G, t, b, rfl, hG, ht, q⟩ := h
  refine ⟨_, (pss_one (ps_ret (C8.pe_mk m_Term3 hr (by first | decide | omega) rfl (pa_cons pe_str (pa_cons pe_str (pa_cons (pe_lst (pa_cons (C8.pe_c c_row_term hr (by first | decide | omega) rfl (pa_cons (pv 0) (pa_cons (pv 1) pa_nil))) pa_nil)) pa_nil)))))), ?_⟩
  refine ⟨_, rfl, _, rfl, G, t, b, rfl, hG, ht, fun G1 H1 x s1 tx hx => ?_⟩
  refine ⟨by show 1 ≤ sizeLine; decide, fun l hl => ?_⟩
  have s2 := s1.loc (q := l) (o := .lst [.ref x]) (s1.free hl) (s1.gh.free hl)
  have e0 : ("" : Str) = S [] := by decide +kernel
  show ∀ x dx, _ → _ → _ → spInit K (CT K) [.ref x, .str "place", .str "", .ref l, .bl false] _ _ _
  rw [e0]
  refine make_term (so := .place) (w := []) (b := false) (pv := [.ref x]) (ts := [.mk .row t [] b]) s2.gh (.inl (SqL.of upd_same)) rfl (one_row tx) ⟨by simp, by simp, (fun u hu => by
    rw [List.mem_singleton.mp hu]; exact Nat.le_trans (row_txt t b ht) (by decide)), (fun _ h => by cases h)⟩ fun G' H' y s3 hy hny => ?_
  exact q G' H' y (s2.trans s3) hy (s2.free hny)
theorem c_place_term (T : Tx K mg) : C8.Cal P w K mg base 7 "place_term" (spPlace (CT K)) [] := by
  obtain ⟨fd, O, F⟩ := o_place_term (P := P) (w := w) (base := base) T
  obtain ⟨ds, hv, hb⟩ := F.binds1 (ps := ["table", "marked"]) 2 1 (by simp) (by rfl) fun _ _ _ _ _ _ _ us its hl hi => match us, its, hl, hi with | [_, _], [_], _, _ => ⟨_, rfl, rfl⟩
  exact ⟨_, fd, _, ds, O, g_place_term T, F.kp, hb, hv⟩
abbrev N_zero_term : List Str := []
theorem sc_zero_term : FnScope N_zero_term [] (defScope s_zero_term) := ⟨rfl, rfl, rfl, by decide +kernel, rfl, by decide +kernel, by decide +kernel⟩
theorem c_zero_term (T : Tx K mg) : C8.Cal P w K mg base 6 "zero_term" (spZero (CT K)) [] := by
  obtain ⟨fd, F⟩ := f_zero_term T
  have m_Term3 := m_Term3 (P := P) (w := w) (base := base) T
  refine mkCal F (g_zero_term T) (F.bindsN fun _ _ _ _ _ _ us hl => match us, hl with | [], _ => rfl) .nil sc_zero_term (fun vs H Q E h => ?_) (fun cdv A outer s H vs Q E hr h => ?_)
  · obtain ⟨G, rfl, _⟩ := h
    rfl
  obtain ⟨G, rfl, hG, q⟩ := h
  refine ⟨_, (pss_one (ps_ret (C8.pe_mk m_Term3 hr (by first | decide | omega) rfl (pa_cons pe_str (pa_cons pe_str (pa_cons (pe_lst pa_nil) pa_nil)))))), ?_⟩
  refine ⟨Nat.zero_le _, fun l hl => ?_⟩
  have s2 := (Step.refl hG).loc (p := none) (q := l) (o := .lst []) hl (hG.free hl)
  have e0 : ("" : Str) = S [] := by decide +kernel
  show ∀ x dx, _ → _ → _ → spInit K (CT K) [.ref x, .str "zero", .str "", .ref l, .bl false] _ _ _
  rw [e0]
  refine make_term (so := .zero) (w := []) (b := false) (pv := []) (ts := []) s2.gh (.inl (SqL.of upd_same)) rfl (fun i v t h => by cases h) ⟨by simp, by simp, (fun u hu => by cases hu), (fun h => by rcases h with h | h <;> cases h)⟩ fun G' H' y s3 hy hny => ?_
  exact q G' H' y (s2.trans s3) hy (s2.free hny)
end Pf
namespace Bs
open PySem PySem.Spec PyProof.Rows L2 SX
variable {P : Program} {w : World} {K : PySem.W.Frag} {mg : Str → Option Value} {base : Heap} {X : Cx}
theorem nox_of {X : Cx} {st : List Stmt} {R : TS → Prop} (h : ∃ t, PSs X.nox st t ∧ R t) : ∃ t, PSs X st t ∧ R t := let ⟨t, a, b⟩ := h
  ⟨t, a.nox, b⟩
/-- a def with a star, called by its name -/
structure CalR (P : Program) (w : World) (K : PySem.W.Frag) (mg : Str → Option Value) (base : Heap) (k : Nat) (x : Str) (sp : Sp) : Prop where
  ex : ∃ f : Addr, FnR P w K mg base C8.CX0 k f sp ∧ mg x = some (.ref f) ∧ PySem.W.keepIn K (.ref f) = true
theorem pe_r {k j : Nat} {x : Str} {sp : Sp} {p pos : Pos} {e : Expr} {es : List Expr} {t : TA} (c : CalR X.prog X.w X.K X.mg X.base k x sp) (hr : Room j X.A) (hk : k ≤ j) (hg : Gl X x) (ha : PA X (e :: es) t)
    (hdb : (x == ("__debug__" : Str)) = false := by decide) (he : starEach (e :: es) X.env = (false, eval e X.env) :: starEach es X.env := by rfl) (hpl : (backTo pos (starEach es X.env)).any (·.1) = false := by rfl) :
    PE X (.Call (.Name x p) (e :: es) [] pos) (fun σ H Q => t σ H fun vs H1 => sp vs H1 Q C8.E0) := by
  obtain ⟨f, F, hm, kp⟩ := c.ex
  refine ⟨fun pins s σ H Q I h => ?_⟩
  refine wpAny_Call_Name_kw (ld_glob I hg hm ?_ hdb)
  exact PySem.W.callWith_K (h₀ := X.base) I.ok.mod.kin kp (thn (ha.run pos pins s σ H _ I h) fun us s1 ⟨vs, H1, I1, r, q⟩ => ⟨I1.kIn, wpAny_call (run_fnR F (hr.mono hk) C8.pass0 I1 r q)⟩) he hpl
def spFn (so : So) (C : Addr) : Sp := fun vs H Q _ => ∃ (G : Hp) (p : Addr) (w : List Nat) (xs : List V) (ts : List Mt), vs = [.str (S w), .ref p] ∧ Same G H ∧ H p = some (.tup xs) ∧ xs.length = ts.length ∧ (∀ (i : Nat) (v : V) (t : Mt), xs[i]? = some v → ts[i]? = some t → TAt C G v t) ∧ Shp so w ts ∧
  ∀ (G' H' : Hp) (x : Addr), Step none G H G' H' → TAt C G' (.ref x) (.mk so w ts false) → H x = none → Q (.ref x) H'
/-- what such a call asks, from outside -/
def spFnR (so : So) (C : Addr) : Sp := fun vs H Q E => ∃ ws rest : List V, vs = ws ++ rest ∧ ws.length = 1 ∧ rest.length ≤ sizeLine ∧ ∀ p, H p = none → spFn so C (ws ++ [V.ref p]) (upd H p (.tup rest)) Q E
end Bs
namespace Pf
open PySem PySem.Spec PyProof.Rows L2 Bs SX
variable {P : Program} {w : World} {K : PySem.W.Frag} {mg : Str → Option Value} {base : Heap}
abbrev N_function_term : List Str := ["name", "parts"]
theorem sc_function_term : FnScope N_function_term ["name", "parts"] (defScope s_function_term) := ⟨rfl, rfl, rfl, by decide +kernel, rfl, by decide +kernel, by decide +kernel⟩
theorem r_function_term (T : Tx K mg) : CalR P w K mg base 6 "function_term" (spFnR .func (CT K)) := by
  obtain ⟨fd, F⟩ := f_function_term T
  have m_Term3 := m_Term3 (P := P) (w := w) (base := base) T
  obtain ⟨oc, od, dV, kV, doc, pm, an, cdv, ct, osl, rfl, lk, hcd, hD, _⟩ := F.ex
  obtain ⟨_, rfl⟩ | ⟨hne, _⟩ := hD
  rotate_left
  · exact absurd rfl hne
  refine ⟨_, StX.fn_star (ps := ["name"]) (pv := "parts") (N := N_function_term) (sp := spFn .func (CT K)) lk hcd sc_function_term StX.cxUp_none (fun us rest hl => match us, rest, hl with | [_], [], _ => rfl | [_], _ :: _, _ => rfl) (fun A outer s H vs Q E hr h => ?_), g_function_term T, F.kp⟩
  obtain ⟨G, p, w, xs, ts, rfl, hG, hp, hlen, hts, sh, q⟩ := h
  refine nox_of ⟨_, (pss_one (ps_ret (C8.pe_mk m_Term3 hr (by first | decide | omega) rfl (pa_cons pe_str (pa_cons (pv 0) (pa_cons (pv 1) pa_nil)))))), ?_⟩
  refine ⟨_, rfl, _, rfl, ?_⟩
  exact make_term (so := .func) (w := w) (b := false) (pv := xs) (ts := ts) hG (.inr (SqT.of hp)) hlen hts sh fun G' H' y s3 hy hny => q G' H' y s3 hy hny
abbrev N_rule_term : List Str := ["name", "parts"]
theorem sc_rule_term : FnScope N_rule_term ["name", "parts"] (defScope s_rule_term) := ⟨rfl, rfl, rfl, by decide +kernel, rfl, by decide +kernel, by decide +kernel⟩
theorem r_rule_term (T : Tx K mg) : CalR P w K mg base 6 "rule_term" (spFnR .rule (CT K)) := by
  obtain ⟨fd, F⟩ := f_rule_term T
  have m_Term3 := m_Term3 (P := P) (w := w) (base := base) T
  obtain ⟨oc, od, dV, kV, doc, pm, an, cdv, ct, osl, rfl, lk, hcd, hD, _⟩ := F.ex
  obtain ⟨_, rfl⟩ | ⟨hne, _⟩ := hD
  rotate_left
  · exact absurd rfl hne
  refine ⟨_, StX.fn_star (ps := ["name"]) (pv := "parts") (N := N_rule_term) (sp := spFn .rule (CT K)) lk hcd sc_rule_term StX.cxUp_none (fun us rest hl => match us, rest, hl with | [_], [], _ => rfl | [_], _ :: _, _ => rfl) (fun A outer s H vs Q E hr h => ?_), g_rule_term T, F.kp⟩
  obtain ⟨G, p, w, xs, ts, rfl, hG, hp, hlen, hts, sh, q⟩ := h
  refine nox_of ⟨_, (pss_one (ps_ret (C8.pe_mk m_Term3 hr (by first | decide | omega) rfl (pa_cons pe_str (pa_cons (pv 0) (pa_cons (pv 1) pa_nil)))))), ?_⟩
  refine ⟨_, rfl, _, rfl, ?_⟩
  exact make_term (so := .rule) (w := w) (b := false) (pv := xs) (ts := ts) hG (.inr (SqT.of hp)) hlen hts sh fun G' H' y s3 hy hny => q G' H' y s3 hy hny
abbrev N_Term_eq : List Str := ["self", "other"]
theorem sc_Term_eq : FnScope N_Term_eq ["self", "other"] (defScope s_Term_eq) := ⟨rfl, rfl, rfl, by decide +kernel, rfl, by decide +kernel, by decide +kernel⟩
theorem o_eq (T : Tx K mg) : ∃ fd, FnOk P w K mg base C8.CX0 1 (He.ma K (CT K) "__eq__") fd ["self", "other"] (spCmp (spEqT (CT K) K)) ∧ Binds K fd ["self", "other"] [] := by
  obtain ⟨fd, F⟩ := f_Term_eq T
  refine ⟨fd, ok0 F sc_Term_eq (fun vs H Q E h => ?_) (fun cdv A outer s H vs Q E hr h => ?_), F.bindsN fun _ _ _ _ _ _ us hl => match us, hl with | [_, _], _ => rfl⟩
  · obtain ⟨a, y, r, rfl, _⟩ := h
    rfl
  obtain ⟨a, y, r, rfl, ⟨G, m, hG, ha, hy⟩, q⟩ := h
  have C0 := cls_Term_ T
  have I0 := Hd.insB_ok (ex_0 T)
  have pe_g_Term : ∀ {X : Cx} {pos : Pos}, X.mg = mg → Gl X "Term" → PE X (.Name "Term" pos) (tC (.ref (CT K))) := fun h1 h2 => C8.pe_gc h2 ⟨_, by rw [h1]; exact g_Term T, rfl⟩
  refine ⟨_, (pss_one (ps_ret (pe_and (pe_callB (call_isiK' (K := K) rfl) (by rfl) (z_isinstance T) boot_isinstance (pa_cons (pv 1) (pa_cons (pe_g_Term rfl rfl) pa_nil))) (pe_one (pe_cmpR op_eq (pe_fldK (K := K) rfl (pv 0) (by rfl)) (pe_fldK (K := K) rfl (pv 1) (by rfl)) (nomark _)))))), ?_⟩
  obtain ⟨a1, dx, l, so, w, ts, b, e1, e2, e3⟩ := ha.obj
  cases e1
  rcases hy with ⟨m2, hm2, er⟩ | ⟨er, t, ht, ty⟩
  · obtain ⟨a2, dx2, l2, so2, w2, ts2, b2, f1, f2, f3⟩ := hm2.obj
    subst f1
    refine ⟨_, rfl, .ref a2, .ref (CT K), .ref (CT K), .ref (CT K), true, rfl, .own _, .base (.ins (hG _ _ f3) C0 I0.ha I0.hn I0.htk I0.hm), I0.me, true, rfl, iteT ?_⟩
    refine ⟨_, rfl, a, CT K, dx, _, _, rfl, hG _ _ e3, C0, noat_Term_text T, tf_text, _, rfl, a2, CT K, dx2, _, _, rfl, hG _ _ f3, C0, noat_Term_text T, tf_text, rfl, ?_⟩
    have e4 : decide (V.str (S m.txt) = V.str (S m2.txt)) = r := by
      rw [er]
      by_cases c : m.txt = m2.txt
      · rw [c, decide_eq_true rfl, decide_eq_true rfl]
      · rw [decide_eq_false c, decide_eq_false fun h => c (S_inj (V.str.inj h))]
    rw [e4]
    exact q
  · have kk := Hd.kitsB_ok (ex_1 T) ht
    refine ⟨_, rfl, y, .ref (CT K), .type t, .ref (CT K), false, rfl, .own _, ty, kk.1, false, rfl, iteF ?_⟩
    rw [← er]
    exact q
abbrev N_Term_str : List Str := ["self"]
theorem sc_Term_str : FnScope N_Term_str ["self"] (defScope s_Term_str) := ⟨rfl, rfl, rfl, by decide +kernel, rfl, by decide +kernel, by decide +kernel⟩
theorem o_str (T : Tx K mg) : ∃ fd, FnOk P w K mg base C8.CX0 1 (He.ma K (CT K) "__str__") fd ["self"] (spStr (spStrT (CT K))) ∧ Binds K fd ["self"] [] := by
  obtain ⟨fd, F⟩ := f_Term_str T
  refine ⟨fd, ok0 F sc_Term_str (fun vs H Q E h => ?_) (fun cdv A outer s H vs Q E hr h => ?_), F.bindsN fun _ _ _ _ _ _ us hl => match us, hl with | [_], _ => rfl⟩
  · obtain ⟨a, x, rfl, _⟩ := h
    rfl
  obtain ⟨a, x, rfl, ⟨G, m, hG, ha, ex⟩, q⟩ := h
  obtain ⟨a1, dx, l, so, w, ts, b, e1, e2, e3⟩ := ha.obj
  cases e1
  refine ⟨_, (pss_one (ps_ret (pe_callTy SkE.call_str_str (by rfl) (z_str T) boot_str (pa_cons (pe_fldK (K := K) rfl (pv 0) (by rfl)) pa_nil)))), ?_⟩
  refine ⟨_, rfl, a, CT K, dx, _, _, rfl, hG _ _ e3, cls_Term_ T, noat_Term_text T, tf_text, _, rfl, ?_⟩
  rw [← ex]
  exact q
theorem own_eq (T : Tx K mg) {X : Cx} (h1 : X.prog = P) (h2 : X.w = w) (h3 : X.K = K) (h4 : X.mg = mg) (h5 : X.base = base) : OwnE X 1 (CT K) (spEqT (CT K) K) := by
  subst h1 h2 h3 h4 h5
  obtain ⟨fd, O, b⟩ := o_eq (P := X.prog) (w := X.w) (base := X.base) T
  exact ⟨⟨_, fd, _, O, (meth_Term_eq T).at_, (meth_Term_eq T).fn, b⟩, (Hd.insB_ok (ex_0 T)).hm, He.eqO_ok (ex_3 T)⟩
theorem own_str (T : Tx K mg) {X : Cx} (h1 : X.prog = P) (h2 : X.w = w) (h3 : X.K = K) (h4 : X.mg = mg) (h5 : X.base = base) : OwnS X 1 (CT K) (spStrT (CT K)) := by
  subst h1 h2 h3 h4 h5
  obtain ⟨fd, O, b⟩ := o_str (P := X.prog) (w := X.w) (base := X.base) T
  exact ⟨⟨_, fd, _, O, (meth_Term_str T).at_, (meth_Term_str T).fn, b⟩⟩
end Pf
namespace Bs
open PySem PySem.Spec PyProof.Rows L2 SX
variable {P : Program} {w : World} {K : PySem.W.Frag} {mg : Str → Option Value} {base : Heap}
/-! ### a pen of cells, a rest and a seed -/
abbrev penC (a : Addr) (r sd : Int) : List (Key × V) := [(Sum.inr "cells", .ref a), (Sum.inr "rest", .int r), (Sum.inr "seed", .int sd)]
theorem cell_ne : ¬ (("cells" : Str) = "rest") ∧ ¬ (("cells" : Str) = "seed") ∧ ¬ (("rest" : Str) = "seed") ∧ ¬ (("rest" : Str) = "cells") ∧ ¬ (("seed" : Str) = "cells") ∧ ¬ (("seed" : Str) = "rest") := by decide +kernel
theorem inr_ne {x y : Str} (h : ¬ x = y) : ¬ ((Sum.inr x : Key) = Sum.inr y) := fun q => h (Sum.inr.inj q)
section
variable {a b : Addr} {r sd j : Int} {H : Hp} {p : Addr}
theorem pc_gc : valV (penC a r sd) (Sum.inr "cells") = some (.ref a) := valV_pos rfl
theorem pc_gr : valV (penC a r sd) (Sum.inr "rest") = some (.int r) := by rw [valV_neg (inr_ne cell_ne.1), valV_pos rfl]
theorem pc_gs : valV (penC a r sd) (Sum.inr "seed") = some (.int sd) := by rw [valV_neg (inr_ne cell_ne.2.1), valV_neg (inr_ne cell_ne.2.2.1), valV_pos rfl]
theorem pc_pc : putK (penC a r sd) (Sum.inr "cells") (.ref b) = penC b r sd := by
  have h1 := inr_ne cell_ne.2.2.2.1
  have h2 := inr_ne cell_ne.2.2.2.2.1
  simp [putK]
  exact ⟨cell_ne.2.2.2.1, cell_ne.2.2.2.2.1⟩
theorem pc_pr : putK (penC a r sd) (Sum.inr "rest") (.int j) = penC a j sd := by
  have h1 := cell_ne.2.2.2.2.2
  simp [putK, cell_ne.1]
  intro h
  exact absurd h h1
theorem pc_ps : putK (penC a r sd) (Sum.inr "seed") (.int j) = penC a r j := by simp [putK, cell_ne]
theorem pc_c (h : H p = some (.dK (penC a r sd))) : DGet H p (.str "cells") (some (.ref a)) := by rw [← pc_gc (a := a) (r := r) (sd := sd)]; exact DGet.k (k := Sum.inr "cells") h
theorem pc_r (h : H p = some (.dK (penC a r sd))) : DGet H p (.str "rest") (some (.int r)) := by rw [← pc_gr (a := a) (r := r) (sd := sd)]; exact DGet.k (k := Sum.inr "rest") h
theorem pc_s (h : H p = some (.dK (penC a r sd))) : DGet H p (.str "seed") (some (.int sd)) := by rw [← pc_gs (a := a) (r := r) (sd := sd)]; exact DGet.k (k := Sum.inr "seed") h
theorem pc_uc (h : H p = some (.dK (penC a r sd))) : DPut H p (.str "cells") (.ref b) (upd H p (.dK (penC b r sd))) := by
  have z := DPut.k (k := Sum.inr "cells") (v := .ref b) h (show 3 < sizeLine by decide)
  rw [pc_pc] at z
  exact z
theorem pc_ur (h : H p = some (.dK (penC a r sd))) : DPut H p (.str "rest") (.int j) (upd H p (.dK (penC a j sd))) := by
  have z := DPut.k (k := Sum.inr "rest") (v := .int j) h (show 3 < sizeLine by decide)
  rw [pc_pr] at z
  exact z
theorem pc_us (h : H p = some (.dK (penC a r sd))) : DPut H p (.str "seed") (.int j) (upd H p (.dK (penC a r j))) := by
  have z := DPut.k (k := Sum.inr "seed") (v := .int j) h (show 3 < sizeLine by decide)
  rw [pc_ps] at z
  exact z
end
theorem cutV_map (ns : List Int) (lo hi : Option Int) : ∃ ms : List Int, cutV (ns.map V.int) lo hi = ms.map V.int ∧ ms.length ≤ ns.length ∧ (∀ h : Nat, lo = none → hi = some (h : Int) → ms.length ≤ h) := by
  refine ⟨(ns.drop (HT.sIx ns.length 0 lo)).take (HT.sIx ns.length ns.length hi - HT.sIx ns.length 0 lo), ?_, ?_, fun h e1 e2 => ?_⟩
  · unfold cutV
    rw [List.length_map, List.map_take, List.map_drop]
  · rw [List.length_take, List.length_drop]; omega
  · subst e1 e2
    rw [HT.sIx_nat, List.length_take]
    omega
theorem dp_ints {H : Hp} : ∀ ns : List Int, DpAll K H (ns.map V.int) (ns.map PyData.int)
  | [] => .nil
  | n :: r => .cons (.int n) (dp_ints r)
theorem lay_ints : ∀ ns : List Int, PyData.canLayAll0 (ns.map PyData.int) = true ∧ PyData.depthAll (ns.map PyData.int) ≤ 1
  | [] => ⟨by simp [PyData.canLayAll0], by simp [PyData.depthAll]⟩
  | n :: r => by
    obtain ⟨h1, h2⟩ := lay_ints r
    refine ⟨by simp [PyData.canLayAll0, PyData.canLay0, h1], ?_⟩
    simp only [List.map_cons, PyData.depthAll, PyData.depth]
    omega
theorem shaped_ints (ns : List Int) : SeqAt.shaped (.list (ns.map PyData.int)) = true := by
  obtain ⟨h1, h2⟩ := lay_ints ns
  unfold SeqAt.shaped
  rw [PyData.canLay0, h1, PyData.depth, Bool.true_and, decide_eq_true_eq]
  omega
theorem eqv_nil (ns : List Int) : (PyData.list (ns.map PyData.int)).eqv (.list []) = ns.isEmpty := by
  cases ns with
  | nil => simp [PyData.eqv, PyData.eqvAll]
  | cons n r => simp [PyData.eqv, PyData.eqvAll]
/-- the pen stands at p, outside of what never changes; its cells are within -/
structure Pk (G H : Hp) (p : Addr) : Prop where
  gh : Same G H
  out : G p = none
  pen : ∃ (a : Addr) (ns : List Int) (r sd : Int), H p = some (.dK (penC a r sd)) ∧ G a = some (.lst (ns.map V.int)) ∧ ns.length ≤ 60 ∧ 0 ≤ r ∧ 0 ≤ sd
theorem Pk.there {G H : Hp} {p : Addr} (h : Pk G H p) : H p ≠ none := by
  obtain ⟨_, _, _, _, e, _⟩ := h.pen
  rw [e]
  exact fun z => by cases z
/-- other things are made or changed, the pen is not -/
theorem Pk.step {G H G1 H1 : Hp} {p : Addr} (h : Pk G H p) (s : Step none G H G1 H1) : Pk G1 H1 p := by
  obtain ⟨a, ns, r, sd, e, ha, hl, h0, h1⟩ := h.pen
  exact ⟨s.gh, s.out h.out h.there, a, ns, r, sd, s.same _ _ e, s.gg _ _ ha, hl, h0, h1⟩
theorem Pk.put {G H : Hp} {p a : Addr} {ns : List Int} {r sd : Int} (gh : Same G H) (out : G p = none) (hp : H p ≠ none) (ha : G a = some (.lst (ns.map V.int))) (hl : ns.length ≤ 60) (h0 : 0 ≤ r) (h1 : 0 ≤ sd) :
    Step (some p) G H G (upd H p (.dK (penC a r sd))) ∧ Pk G (upd H p (.dK (penC a r sd))) p := by
  have g : Same G (upd H p (.dK (penC a r sd))) := Same.off gh out
  refine ⟨⟨Same.refl G, g, fun b hb => .inl hb, fun b o e n => ?_, fun b e h => ?_⟩, g, out, a, ns, r, sd, upd_same, ha, hl, h0, h1⟩
  · rw [upd_ne (fun z => n (by rw [z]))]; exact e
  · rw [Option.some.inj e, upd_same]; exact fun z => by cases z
def spPenC (K : PySem.W.Frag) : Sp := fun vs H Q _ => ∃ (a : Addr) (ns : List Int), vs = [.ref a] ∧ SqL K H a (ns.map V.int) ∧ ∀ (p : Addr) (G' H' : Hp), Same H H' → (∀ b, G' b ≠ none → H b = none) → Pk G' H' p → Q (.ref p) H'
def spDr : Sp := fun vs H Q _ => ∃ (G : Hp) (p : Addr) (m : Int), vs = [.ref p, .int m] ∧ Pk G H p ∧ 0 < m ∧ m < 1000000 ∧
  ∀ (d : Int) (G' H' : Hp), Step (some p) G H G' H' → Pk G' H' p → 0 ≤ d → d < m → Q (.int d) H'
end Bs
namespace Pf
open PySem PySem.Spec PyProof.Rows L2 Bs SX
variable {P : Program} {w : World} {K : PySem.W.Frag} {mg : Str → Option Value} {base : Heap}
abbrev N_Lpen : List Str := ["_law_script"]
theorem sc_Lpen : FnScope N_Lpen ["_law_script"] (defScope s_Lpen) := ⟨rfl, rfl, rfl, by decide +kernel, rfl, by decide +kernel, by decide +kernel⟩
theorem c_Lpen (T : Tx K mg) : C8.Cal P w K mg base 1 "_law_pen" (spPenC K) [] := by
  obtain ⟨fd, F⟩ := f_Lpen T
  refine mkCal F (g_law_pen T) (F.bindsN fun _ _ _ _ _ _ us hl => match us, hl with | [_], _ => rfl) .nil sc_Lpen (fun vs H Q E h => ?_) (fun cdv A outer s H vs Q E hr h => ?_)
  · obtain ⟨a, ns, rfl, _⟩ := h
    rfl
  obtain ⟨a, ns, rfl, hS, q⟩ := h
  refine ⟨_, (pss_one (ps_ret (pe_disp (pps_cons pe_str (pe_slice sl_list (pv 0) po_none (po_some pe_int)) (pps_cons pe_str pe_int (pps_cons pe_str pe_int pps_nil))) (by rfl) (by rfl) (fun z => by cases z) (by decide)))), ?_⟩
  intro p hp
  have k0 : Same H (upd H p (.dK [])) := Same.new (Same.refl H) hp
  refine ⟨_, rfl, _, rfl, a, _, rfl, k0.seq hS, fun l hl => ⟨?_, penC l 0 7, rfl, (by show 3 ≤ 15; decide), ?_⟩⟩
  · rw [upd_ne (ne_of_none upd_same hl)]; exact upd_same
  obtain ⟨ms, e1, _, e3⟩ := cutV_map ns none (some (60 : Nat))
  have e : mergeK [] (penC l 0 7) = penC l 0 7 := by simp [mergeK, putK, cell_ne.1, cell_ne.2.1, cell_ne.2.2.1]
  have npl : p ≠ l := ne_of_none upd_same hl
  have hl0 : H l = none := by rw [upd_ne npl.symm] at hl; exact hl
  rw [e, upd_swap npl]
  refine q p (upd (fun _ => none) l (.lst (ms.map V.int))) _ ?_ (fun b hb => ?_) ⟨fun b o eb => ?_, ?_, l, ms, 0, 7, upd_same, upd_same, e3 60 rfl rfl, by decide, by decide⟩
  · exact Same.new (Same.new (Same.refl H) hl0) (by rw [upd_ne npl]; exact hp)
  · by_cases c : b = l
    · rw [c]; exact hl0
    · rw [upd_ne c] at hb; exact absurd rfl hb
  · by_cases c : b = l
    · subst c
      rw [upd_same] at eb
      rw [upd_ne npl.symm, upd_same, ← eb, ← e1]
      rfl
    · rw [upd_ne c] at eb; cases eb
  · rw [upd_ne npl]
abbrev N_Ldraw : List Str := ["_law_pen_here", "_law_many", "_law_cell", "_law_digit"]
theorem sc_Ldraw : FnScope N_Ldraw ["_law_pen_here", "_law_many"] (defScope s_Ldraw) := ⟨rfl, rfl, rfl, by decide +kernel, rfl, by decide +kernel, by decide +kernel⟩
theorem c_Ldraw (T : Tx K mg) : C8.Cal P w K mg base 1 "_law_draw" spDr [] := by
  obtain ⟨fd, F⟩ := f_Ldraw T
  refine mkCal F (g_law_draw T) (F.bindsN fun _ _ _ _ _ _ us hl => match us, hl with | [_, _], _ => rfl) .nil sc_Ldraw (fun vs H Q E h => ?_) (fun cdv A outer s H vs Q E hr h => ?_)
  · obtain ⟨G, p, m, rfl, _⟩ := h
    rfl
  obtain ⟨G, p, m, rfl, hP, hm0, hm1, q⟩ := h
  obtain ⟨a, ns, r, sd, hp, ha, hl, hr0, hs0⟩ := id hP.pen
  have hu := hu_of hr
  refine ⟨_, (C8.pss_cut (ps_if (PW.pt (pw_and (pt_cmpR op_eq (pe_dget hu (pv 0) pe_str (fun _ _ => rfl)) pe_int (nomark _)) (pw_and1 (pt_cmpR (op_neD hr.units) (pe_dget hu (pv 0) pe_str (fun _ _ => rfl)) (pe_lst pa_nil) (nomark _))))) (pss_cons (ps_set (i := 2) sc_Ldraw.nd rfl (Or.inl rfl) (pe_callB call_abs (by rfl) (z_abs T) boot_abs (pa_cons (pe_ix (ix_listK (K := K) rfl) (pe_dget hu (pv 0) pe_str (fun _ _ => rfl)) pe_int (fun _ _ => rfl)) pa_nil)))
    (pss_cons (ps_dput hu (pv 0) pe_str (pe_slice sl_list (pe_dget hu (pv 0) pe_str (fun _ _ => rfl)) (po_some pe_int) po_none) rfl)
    (pss_cons (ps_dput hu (pv 0) pe_str (pv 2) rfl)
    (pss_one (ps_dput hu (pv 0) pe_str (pe_op op_mod (pe_callTy call_int1 (by rfl) (z_int T) boot_int (pa_cons (pe_op op_add (pe_op op_mul (pe_dget hu (pv 0) pe_str (fun _ _ => rfl)) pe_int) (pv 2)) pa_nil)) pe_int) rfl))))) pss_nil)
    (pss_cons (ps_if (pt_cmpR op_gt (pe_dget hu (pv 0) pe_str (fun _ _ => rfl)) pe_int (nomark _)) (pss_cons (ps_set (i := 3) sc_Ldraw.nd rfl (Or.inl rfl) (pe_op op_modN (pe_callTy call_int1 (by rfl) (z_int T) boot_int (pa_cons (pe_dget hu (pv 0) pe_str (fun _ _ => rfl)) pa_nil)) (pv 1)))
    (pss_cons (ps_dput hu (pv 0) pe_str (pe_op op_fdivN (pe_dget hu (pv 0) pe_str (fun _ _ => rfl)) (pv 1)) rfl)
    (pss_one (ps_ret (pv 3))))) pss_nil)
    (pss_cons (ps_dput hu (pv 0) pe_str (pe_op op_mod (pe_callTy call_int1 (by rfl) (z_int T) boot_int (pa_cons (pe_op op_add (pe_op op_mul (pe_dget hu (pv 0) pe_str (fun _ _ => rfl)) pe_int) pe_int) pa_nil)) pe_int) rfl)
    (pss_one (ps_ret (pe_op op_modN (pe_callTy call_int1 (by rfl) (z_int T) boot_int (pa_cons (pe_op op_fdiv (pe_dget hu (pv 0) pe_str (fun _ _ => rfl)) pe_int) pa_nil)) (pv 1))))))), ?_⟩
  have fm : ∀ x : Int, 0 ≤ Int.fmod x m ∧ Int.fmod x m < m := fun x => ⟨Int.fmod_nonneg_of_pos x hm0, Int.fmod_lt_of_pos x hm0⟩
  refine ⟨fun σ' H' => ∃ (G1 : Hp) (c : Option V), σ' = [some (.ref p), some (.int m), c, none] ∧ Step (some p) G H G1 H' ∧ Pk G1 H' p, ?_, ?_⟩
  · refine ⟨_, rfl, p, _, rfl, pc_r hp, rfl, _, rfl, ?_⟩
    refine ite2 (fun c => ?_) (fun c => iteF ⟨G, none, rfl, Step.refl hP.gh, hP⟩)
    refine ⟨_, rfl, p, _, rfl, pc_c hp, Nat.zero_le _, fun l0 hl0 => ?_⟩
    have n0 : p ≠ l0 := ne_of_none hp hl0
    have hp0 : upd H l0 (.lst []) p = some (.dK (penC a r sd)) := by rw [upd_ne n0]; exact hp
    have s0 : Step (some p) G H G (upd H l0 (.lst [])) := (Step.refl hP.gh).loc hl0 (hP.gh.free hl0)
    refine ⟨_, _, .lst (SqL.of (s0.gh _ _ ha)) (dp_ints ns), .lst (SqL.of upd_same) .nil, shaped_ints ns, shaped_ints [], _, rfl, ?_⟩
    rw [eqv_nil]
    have P0 : Pk G (upd H l0 (.lst [])) p := ⟨s0.gh, hP.out, a, ns, r, sd, hp0, ha, hl, hr0, hs0⟩
    refine ite2 (fun c2 => ?_) (fun c2 => ⟨G, none, rfl, s0, P0⟩)
    have hne : 0 < ns.length := by
      cases ns with
      | nil => simp at c2
      | cons n t => simp
    obtain ⟨v, hv, _⟩ := atI_int (ns := ns) (k := 0) (by omega) (by omega)
    have ha0 := s0.gh _ _ ha
    refine ⟨_, rfl, p, _, rfl, pc_c hp0, a, _, 0, _, rfl, rfl, SqL.of ha0, hv, _, rfl, ?_⟩
    generalize upd H l0 (.lst []) = Hc at *
    generalize ec : (if v < 0 then -v else v) = cl
    have hcl : 0 ≤ cl := by rw [← ec]; split <;> omega

    refine ⟨_, rfl, p, _, rfl, pc_c hp0, 1, rfl, a, _, rfl, SqL.of ha0, fun l1 hl1 => ?_⟩
    obtain ⟨ms, em, lm, _⟩ := cutV_map ns (some 1) none
    rw [em]
    obtain ⟨s2, P2⟩ : Step (some p) G H (upd G l1 (.lst (ms.map V.int))) (upd Hc l1 (.lst (ms.map V.int))) ∧ Pk (upd G l1 (.lst (ms.map V.int))) (upd Hc l1 (.lst (ms.map V.int))) p :=
      ⟨s0.new_ hl1, P0.step ((Step.refl s0.gh).new_ hl1)⟩
    have n1 : p ≠ l1 := ne_of_none hp0 hl1
    have hp1 : upd Hc l1 (.lst (ms.map V.int)) p = some (.dK (penC a r sd)) := by rw [upd_ne n1]; exact hp0
    refine ⟨_, rfl, p, _, rfl, pc_uc (b := l1) hp1, ?_⟩
    refine ⟨_, rfl, _, rfl, p, _, rfl, pc_ur (j := cl) upd_same, ?_⟩
    rw [upd_upd]
    refine ⟨_, rfl, p, _, rfl, pc_s upd_same, _, _, rfl, rfl, .inr ⟨by decide, by decide⟩, _, rfl, _, _, rfl, rfl, .inl ⟨_, rfl, _, _, rfl, rfl, (by show (0 : Int) < 2147483647; decide), _, rfl, p, _, rfl, pc_us (j := (sd * 31 + cl) % 2147483647) upd_same, ?_⟩⟩
    rw [upd_upd]
    obtain ⟨s3, P3⟩ := Pk.put (r := cl) (sd := (sd * 31 + cl) % 2147483647) P2.gh P2.out P2.there upd_same (by omega) hcl (by omega)
    exact ⟨_, _, rfl, s2.trans s3, P3⟩
  · rintro σ' H' ⟨G1, c, rfl, s1, P1⟩
    obtain ⟨a1, ns1, r1, sd1, hp1, ha1, hl1, hr1, hs1⟩ := id P1.pen
    refine ⟨_, rfl, p, _, rfl, pc_r hp1, _, _, rfl, rfl, _, rfl, ?_⟩
    refine ite2 (fun c => ?_) (fun c => ?_)
    · refine ⟨_, rfl, p, _, rfl, pc_r hp1, .inl ⟨_, rfl, _, rfl, _, _, rfl, rfl, by omega, ?_⟩⟩
      refine ⟨_, rfl, p, _, rfl, pc_r hp1, _, rfl, _, _, rfl, rfl, ⟨by omega, by omega⟩, _, rfl, p, _, rfl, pc_ur hp1, _, rfl, ?_⟩
      obtain ⟨s3, P3⟩ := Pk.put (r := Int.fdiv r1 m) (sd := sd1) P1.gh P1.out P1.there ha1 hl1 (by rw [Int.fdiv_eq_ediv_of_nonneg _ (by omega)]; exact Int.ediv_nonneg hr1 (by omega)) hs1
      exact q _ _ _ (s1.trans s3) P3 (fm _).1 (fm _).2
    · refine ⟨_, rfl, p, _, rfl, pc_s hp1, _, _, rfl, rfl, .inr ⟨by decide, by decide⟩, _, _, rfl, rfl, .inl ⟨_, rfl, _, _, rfl, rfl, (by show (0 : Int) < 2147483647; decide), _, rfl, p, _, rfl, pc_us (j := (sd1 * 48271 + 12345) % 2147483647) hp1, ?_⟩⟩
      refine ⟨_, rfl, p, _, rfl, pc_s upd_same, _, _, rfl, rfl, ⟨by decide, by decide⟩, .inl ⟨_, rfl, _, rfl, _, _, rfl, rfl, by omega, ?_⟩⟩
      obtain ⟨s3, P3⟩ := Pk.put (r := r1) (sd := (sd1 * 48271 + 12345) % 2147483647) P1.gh P1.out P1.there ha1 hl1 hr1 (by omega)
      exact q _ _ _ (s1.trans s3) P3 (fm _).1 (fm _).2
end Pf
namespace Bs
open PySem PySem.Spec PyProof.Rows L2 SX
variable {P : Program} {w : World} {K : PySem.W.Frag} {mg : Str → Option Value} {base : Heap}
/-! ### states -/
def evw : List Nat := [101, 118, 101, 114, 121, 119, 104, 101, 114, 101]
def wnt : List Nat := [44, 32, 119, 97, 110, 116, 115, 32]
theorem evw_ : ("everywhere" : Str) = S evw := by decide +kernel
theorem wnt_ : (", wants " : Str) = S wnt := by decide +kernel
theorem evwnt_ : ("everywhere, wants " : Str) = S (evw ++ wnt) := by decide +kernel
theorem at_ : ("at " : Str) = S [97, 116, 32] := by decide +kernel
theorem sp_ : (" " : Str) = S [32] := by decide +kernel
def wtx (q : Nat × Mt) : List Nat := TL.numL q.1 ++ [32] ++ q.2.txt
def stx : Option Mt → List (Nat × Mt) → List Nat
  | some m, _ => [97, 116, 32] ++ m.txt
  | none, [] => evw
  | none, q :: ws => evw ++ wnt ++ TL.joinL [44, 32] ((q :: ws).map wtx)
def WAt (C : Addr) (G : Hp) (v : V) (q : Nat × Mt) : Prop := ∃ (a : Addr) (x : V), v = .ref a ∧ G a = some (.tup [.int (q.1 : Nat), x]) ∧ TAt C G x q.2
def WAts (C : Addr) (G : Hp) (vs : List V) (ws : List (Nat × Mt)) : Prop := vs.length = ws.length ∧ ∀ (i : Nat) (v : V) (q : Nat × Mt), vs[i]? = some v → ws[i]? = some q → WAt C G v q
theorem WAt.same {C : Addr} {G G' : Hp} {v : V} {q : Nat × Mt} (h : WAt C G v q) (s : Same G G') : WAt C G' v q := by
  obtain ⟨a, x, e, ha, hx⟩ := h
  exact ⟨a, x, e, s _ _ ha, hx.same s⟩
theorem WAts.same {C : Addr} {G G' : Hp} {vs : List V} {ws : List (Nat × Mt)} (h : WAts C G vs ws) (s : Same G G') : WAts C G' vs ws := ⟨h.1, fun i v q a b => (h.2 i v q a b).same s⟩
def OAt (C : Addr) (G : Hp) (v : V) : Option Mt → Prop
  | none => v = .non
  | some m => TAt C G v m
theorem OAt.same {C : Addr} {G G' : Hp} {v : V} {o : Option Mt} (h : OAt C G v o) (s : Same G G') : OAt C G' v o := by
  cases o with
  | none => exact h
  | some m => exact TAt.same s h
/-- small enough -/
structure Sml (o : Option Mt) (ws : List (Nat × Mt)) : Prop where
  many : ws.length ≤ 3
  o : ∀ m, o = some m → m.txt.length ≤ 100
  ws : ∀ q ∈ ws, q.1 < 1000 ∧ q.2.txt.length ≤ 100
def sf (tv : V) (wa : Addr) (t : List Nat) : List (Str × V) := putF "text" (.str (S t)) (putF "wants" (.ref wa) (putF "term" tv []))
theorem sf_text {tv : V} {wa : Addr} {t : List Nat} : (sf tv wa t).lookup ("text" : Str) = some (.str (S t)) := by unfold sf; rw [lookup_putF, if_pos rfl]
theorem sf_wants {tv : V} {wa : Addr} {t : List Nat} : (sf tv wa t).lookup ("wants" : Str) = some (.ref wa) := by unfold sf; rw [lookup_putF, if_neg (by decide +kernel), lookup_putF, if_pos rfl]
theorem sf_term {tv : V} {wa : Addr} {t : List Nat} : (sf tv wa t).lookup ("term" : Str) = some tv := by unfold sf; rw [lookup_putF, if_neg (by decide +kernel), lookup_putF, if_neg (by decide +kernel), lookup_putF, if_pos rfl]
structure SAt (CS C : Addr) (G : Hp) (a : Addr) (o : Option Mt) (ws : List (Nat × Mt)) : Prop where
  ex : ∃ (dx wa : Addr) (tv : V) (vs : List V), G a = some (.ins CS dx (sf tv wa (stx o ws))) ∧ G wa = some (.tup vs) ∧ WAts C G vs ws ∧ OAt C G tv o
theorem SAt.same {CS C : Addr} {G G' : Hp} {a : Addr} {o : Option Mt} {ws : List (Nat × Mt)} (h : SAt CS C G a o ws) (s : Same G G') : SAt CS C G' a o ws := by
  obtain ⟨dx, wa, tv, vs, h1, h2, h3, h4⟩ := h.ex
  exact ⟨dx, wa, tv, vs, s _ _ h1, s _ _ h2, h3.same s, h4.same s⟩
def spText2 (C : Addr) : Sp := fun vs H Q _ => ∃ (G : Hp) (tv : V) (wa : Addr) (xs : List V) (o : Option Mt) (ws : List (Nat × Mt)), vs = [tv, .ref wa] ∧ Same G H ∧ H wa = some (.tup xs) ∧ WAts C G xs ws ∧ OAt C G tv o ∧ Sml o ws ∧
  ∀ H' : Hp, Step none G H G H' → Q (.str (S (stx o ws))) H'
end Bs
namespace Pf
open PySem PySem.Spec PyProof.Rows L2 Bs SX
variable {P : Program} {w : World} {K : PySem.W.Frag} {mg : Str → Option Value} {base : Heap}
abbrev CS (K : PySem.W.Frag) : Addr := He.ga K "State"
abbrev N_text_of2 : List Str := ["term", "wants", "told", "anti", "wanted"]
theorem sc_text_of2 : FnScope N_text_of2 ["term", "wants"] (defScope s_text_of2) := ⟨rfl, rfl, rfl, by decide +kernel, rfl, by decide +kernel, by decide +kernel⟩
theorem c_text_of_places (T : Tx K mg) : C8.Cal P w K mg base 1 "text_of_places" (spText2 (CT K)) [] := by
  obtain ⟨fd, F⟩ := f_text_of2 T
  refine mkCal F (g_text_of_places T) (F.bindsN fun _ _ _ _ _ _ us hl => match us, hl with | [_, _], _ => rfl) .nil sc_text_of2 (fun vs H Q E h => ?_) (fun cdv A outer s H vs Q E hr h => ?_)
  · obtain ⟨G, tv, wa, xs, o, ws, rfl, _⟩ := h
    rfl
  obtain ⟨G, tv, wa, xs, o, ws, rfl, hG, hwa, hw, ho, sm, q⟩ := h
  have hu := hu_of hr
  refine ⟨_, (pss_cons (ps_if (pt_cmpR op_notN (pv 0) pe_non (nomark _)) (pss_one (ps_ret (pe_joined (PJ.cons pe_str (PJ.cons (pe_fmt (pe_fldK (K := K) rfl (pv 0) (by rfl))) PJ.nil))))) pss_nil)
    (pss_cons (ps_if (pt_not (pt_truth (pv 1) (by intro _; rfl))) (pss_one (ps_ret pe_str)) pss_nil)
    (pss_cons (ps_set (i := 2) sc_text_of2.nd rfl (Or.inl rfl) (pe_join pe_str (pe_lc (own := [("anti", 3), ("wanted", 4)]) rfl sc_text_of2.nd (pi_tupK (K := K) rfl (pv 1)) (blkOk_by (N := N_text_of2) (sc := defScope s_text_of2) (by decide +kernel)) (fun _ _ _ _ _ => (pg_tupK (K := K) (n := 2) rfl rfl (pgs_cons (pg_name (i := 3) sc_text_of2.nd rfl (Or.inl rfl)) (pgs_cons (pg_name (i := 4) sc_text_of2.nd rfl (Or.inl rfl)) pgs_nil)))) (fun _ _ _ _ _ => pts_nil) (fun _ _ _ _ _ => (pe_joined (PJ.cons (pe_fmt (pv 3)) (PJ.cons pe_str (PJ.cons (pe_fmt (pe_fldK (K := K) rfl (pv 4) (by rfl))) PJ.nil))))))))
    (pss_one (ps_ret (pe_joined (PJ.cons pe_str (PJ.cons (pe_fmt (pv 2)) PJ.nil)))))))), ?_⟩
  have sl : sizeLine = 16777216 := rfl
  have le : evw.length = 10 := rfl
  have lw : wnt.length = 8 := rfl
  cases o with
  | some m =>
    have hm := sm.o m rfl
    obtain ⟨a1, dx, l, so, w1, ts, b, e1, e2, e3⟩ := TAt.obj ho
    subst e1
    refine ⟨_, rfl, rfl, _, rfl, ?_⟩
    refine ite2 (fun _ => ?_) (fun c => absurd (show (!decide (V.ref a1 = V.non)) = true by simp) c)
    refine ⟨_, rfl, by rw [em_, at_, S_cat, S_len]; show 3 ≤ sizeLine; omega, _, rfl, a1, CT K, dx, _, _, rfl, hG _ _ e3, cls_Term_ T, noat_Term_text T, tf_text, .inl ⟨S m.txt, rfl, by rw [S_len]; omega, _, rfl, ?_, ?_⟩⟩
    · rw [em_, at_, S_cat, S_cat, S_len]
      simp
      omega
    · rw [em_, at_, S_cat, S_cat]
      exact q H (Step.refl hG)
  | none =>
    have ho' : tv = .non := ho
    subst ho'
    refine ⟨_, rfl, rfl, _, rfl, ?_⟩
    refine ite2 (fun c => absurd c (by decide)) (fun _ => ?_)
    refine ⟨_, rfl, _, .inr (.inl ⟨xs, SqT.of hwa, rfl⟩), ?_⟩
    cases ws with
    | nil =>
      have hx : xs = [] := List.eq_nil_of_length_eq_zero hw.1
      subst hx
      refine iteT ?_
      show Q (.str "everywhere") H
      rw [evw_]
      exact q H (Step.refl hG)
    | cons w0 wr =>
      have hx : xs.isEmpty = false := by
        cases xs with
        | nil => have := hw.1; simp at this
        | cons x r => rfl
      rw [hx]
      refine iteF ?_
      generalize ew : w0 :: wr = ws at *
      refine ⟨⟨_, rfl⟩, _, rfl, wa, rfl, ⟨xs, SqT.of hwa⟩, fun D hD => ?_⟩
      have hGD : G D = none := hG.free hD
      have nD : wa ≠ D := ne_of_none hwa hD
      have ss : ∀ o : HO, Step none G H G (upd H D o) := fun o => (Step.refl hG).loc hD hGD
      have hm := sm.many
      refine lc_tup (K := K) (a := wa) (xs := xs) (te := fun σ H Q => tJs [tFmt (tVar 3), tC (V.str " "), tFmt (tFld K (tVar 4) "text")] Str.empty σ H fun out H1 => Q (V.str out) H1) (fun i H' => H' = upd H D (.lst ((((ws.take i).map wtx).map S).map V.str))) rfl ?_ ?_ ?_
      · rintro i H' _ rfl
        exact SqT.of (by rw [upd_ne nD]; exact hwa)
      · rintro i x H' hx' rfl
        obtain ⟨q0, hq0, mq⟩ := get_pair hw.1 hx'
        obtain ⟨a1, y, e1, e2, e3⟩ := hw.2 i x q0 hx' hq0
        subst e1
        obtain ⟨b1, b2⟩ := sm.ws q0 mq
        obtain ⟨a2, dx, l, so, w1, ts, b, f1, f2, f3⟩ := TAt.obj e3
        subst f1
        have g1 := (ss (.lst ((((ws.take i).map wtx).map S).map V.str))).gh _ _ e2
        have g2 := (ss (.lst ((((ws.take i).map wtx).map S).map V.str))).gh _ _ f3
        refine ⟨a1, _, rfl, SqT.of g1, rfl, _, _, rfl, _, _, rfl, rfl, rfl, ?_⟩
        unfold tYes
        have ln : (TL.numL q0.1).length ≤ 3 := TL.numL_len (by decide) (by omega)
        refine iteT ?_
        have e0 : ((q0.1 : Nat) : Int).natAbs.log2 < 1920 := by rw [Int.natAbs_natCast]; exact Nat.lt_of_le_of_lt (Nat.log2_le_self _) (by omega)
        refine ⟨_, rfl, .inr ⟨_, rfl, e0, _, rfl, ?_⟩⟩
        have en : Str.ofString (toString ((q0.1 : Nat) : Int)) = S (TL.numL q0.1) := num_S q0.1
        have es : (" " : Str) = S [32] := sp_
        rw [en, es, em_]
        refine ⟨by rw [S_cat, S_len]; simp; omega, _, rfl, by rw [S_cat, S_cat, S_len]; simp; omega, _, rfl, a2, CT K, dx, _, _, rfl, g2, cls_Term_ T, noat_Term_text T, tf_text, .inl ⟨S q0.2.txt, rfl, by rw [S_len]; omega, _, rfl, by rw [S_cat, S_cat, S_cat, S_len]; simp; omega, ?_⟩⟩
        refine ⟨_, upd_same, ?_, ?_⟩
        · simp only [List.length_map, List.length_take]
          omega
        · rw [upd_upd, take_one hq0, List.map_append, List.map_append, List.map_append, S_cat, S_cat, S_cat]
          rfl
      rintro H' rfl
      have et : ws.take xs.length = ws := by rw [hw.1, List.take_length]
      rw [et]
      refine ⟨", ", D, (ws.map wtx).map S, rfl, rfl, .inl (SqL.of upd_same), ?_, ?_⟩
      · have b1 := sum_le (n := 104) (xs := ws.map wtx) (fun y hy => by
          obtain ⟨q0, hq0, rfl⟩ := List.mem_map.mp hy
          obtain ⟨b1, b2⟩ := sm.ws q0 hq0
          have ln : (TL.numL q0.1).length ≤ 3 := TL.numL_len (by decide) (by omega)
          unfold wtx
          simp only [List.length_append, List.length_singleton]
          omega)
        rw [lenS, List.length_map, List.length_map, cs_, S_len]
        rw [List.length_map] at b1
        show _ + ws.length * 2 ≤ _
        omega
      rw [cs_, join_S]
      have lj := joinL_len [44, 32] (ws.map wtx)
      have es : stx none ws = evw ++ wnt ++ TL.joinL [44, 32] (ws.map wtx) := by rw [← ew]; rfl
      have b2 : (TL.joinL [44, 32] (ws.map wtx)).length ≤ 1000 := by
        have b1 := sum_le (n := 104) (xs := ws.map wtx) (fun y hy => by
          obtain ⟨q0, hq0, rfl⟩ := List.mem_map.mp hy
          obtain ⟨b1, b2⟩ := sm.ws q0 hq0
          have ln : (TL.numL q0.1).length ≤ 3 := TL.numL_len (by decide) (by omega)
          unfold wtx
          simp only [List.length_append, List.length_singleton]
          omega)
        have e2 : (ws.map wtx).length * ([44, 32] : List Nat).length = ws.length * 2 := by rw [List.length_map]; rfl
        rw [List.length_map] at b1
        rw [e2] at lj
        omega
      refine ⟨_, rfl, by rw [em_, evwnt_, S_cat, S_len]; simp; omega, _, rfl, .inl ⟨S (TL.joinL [44, 32] (ws.map wtx)), rfl, by rw [S_len]; omega, _, rfl, by rw [em_, evwnt_, S_cat, S_cat, S_len]; simp; omega, ?_⟩⟩
      rw [em_, evwnt_, S_cat, S_cat]
      have q1 := q _ (ss (.lst (((ws.map wtx).map S).map V.str)))
      rw [es] at q1
      exact q1
end Pf
namespace Bs
open PySem PySem.Spec PyProof.Rows L2 SX
variable {P : Program} {w : World} {K : PySem.W.Frag} {mg : Str → Option Value} {base : Heap}
def SameT (G : Hp) (v x : V) : Prop := ∃ (t a : Addr) (n : Int) (r : Addr), v = .ref t ∧ x = .ref a ∧ G t = some (.tup [.int n, .ref r]) ∧ G a = some (.tup [.int n, .ref r])
theorem SameT.same {G G' : Hp} {v x : V} (h : SameT G v x) (s : Same G G') : SameT G' v x := by
  obtain ⟨t, a, n, r, e1, e2, h1, h2⟩ := h
  exact ⟨t, a, n, r, e1, e2, s _ _ h1, s _ _ h2⟩
def SameTs (G : Hp) (vs xs : List V) : Prop := vs.length = xs.length ∧ ∀ (i : Nat) (v x : V), vs[i]? = some v → xs[i]? = some x → SameT G v x
theorem SameTs.same {G G' : Hp} {vs xs : List V} (h : SameTs G vs xs) (s : Same G G') : SameTs G' vs xs := ⟨h.1, fun i v x a b => (h.2 i v x a b).same s⟩
def spSInit (CS C : Addr) (Sq : Hp → Addr → List V → Prop) : Sp := fun vs H Q _ => ∃ (G : Hp) (p dx wa : Addr) (tv : V) (xs : List V) (o : Option Mt) (ws : List (Nat × Mt)), vs = [.ref p, tv, .ref wa] ∧ Same G H ∧ G p = none ∧ H p = some (.ins CS dx []) ∧
  (∀ H1 : Hp, Kp p H H1 → Sq H1 wa xs) ∧ WAts C G xs ws ∧ OAt C G tv o ∧ Sml o ws ∧
  ∀ (G1 H' : Hp) (wn : Addr) (vs : List V), Step (some p) G H G1 H' → G1 p = none → G1 wn = some (.tup vs) → WAts C G1 vs ws → SameTs G1 vs xs → OAt C G1 tv o → H' p = some (.ins CS dx (sf tv wn (stx o ws))) → Q .non H'
/-- p's own object changes -/
theorem Step.own {p : Addr} {G H G1 H1 : Hp} {o : HO} (a : Step (some p) G H G1 H1) (gp : G1 p = none) : Step (some p) G H G1 (upd H1 p o) where
  gg := a.gg
  gh := Same.off a.gh gp
  new := a.new
  kp b u e n := by rw [upd_ne (fun z => n (by rw [z]))]; exact a.kp b u e n
  pp b e h := by rw [Option.some.inj e, upd_same]; exact fun z => by cases z
end Bs
namespace Pf
open PySem PySem.Spec PyProof.Rows L2 Bs SX
variable {P : Program} {w : World} {K : PySem.W.Frag} {mg : Str → Option Value} {base : Heap}
abbrev N_State_init : List Str := ["self", "term", "wants", "anti", "wanted"]
theorem sc_State_init : FnScope N_State_init ["self", "term", "wants"] (defScope s_State_init) := ⟨rfl, rfl, rfl, by decide +kernel, rfl, by decide +kernel, by decide +kernel⟩
theorem o_sinit (T : Tx K mg) : ∃ fd, FnOk P w K mg base C8.CX0 2 (He.ma K (CS K) "__init__") fd ["self", "term", "wants"] (spSInit (CS K) (CT K) (SqL K)) ∧ FunD K "__init__" "State.__init__" (defArgs s_State_init) (defBody s_State_init) (defScope s_State_init) [.non, .ref (He.dflAt ("State", some "__init__") 1 K)] [] (He.ma K (CS K) "__init__") fd := by
  obtain ⟨fd, F⟩ := f_State_init T
  refine ⟨fd, ?_, F⟩
  have c_text_of_places := c_text_of_places (P := P) (w := w) (base := base) T
  refine ok0 F sc_State_init (fun vs H Q E h => ?_) (fun cdv A outer s H vs Q E hr h => ?_)
  · obtain ⟨G, p, dx, wa, tv, xs, o, ws, rfl, _⟩ := h
    rfl
  obtain ⟨G, p, dx, wa, tv, xs, o, ws, rfl, hG, hGp, hp, hwa, hw, ho, sm, q⟩ := h
  have hu := hu_of hr
  have C0 := cls_State_ T
  have sl : sizeLine = 16777216 := rfl
  refine ⟨_, (pss_cons (ps_fld (pv 0) (pv 1) rfl)
    (pss_cons (ps_fld (pv 0) (pe_callTy call_tuple_of (by rfl) (z_tuple T) boot_tuple (pa_cons (pe_lc (own := [("anti", 3), ("wanted", 4)]) rfl sc_State_init.nd (pi_listK (K := K) rfl (pv 2)) (blkOk_by (N := N_State_init) (sc := defScope s_State_init) (by decide +kernel)) (fun _ _ _ _ _ => (pg_tupK (K := K) (n := 2) rfl rfl (pgs_cons (pg_name (i := 3) sc_State_init.nd rfl (Or.inl rfl)) (pgs_cons (pg_name (i := 4) sc_State_init.nd rfl (Or.inl rfl)) pgs_nil)))) (fun _ _ _ _ _ => pts_nil) (fun _ _ _ _ _ => (pe_tup (pa_cons (pv 3) (pa_cons (pv 4) pa_nil))))) pa_nil)) rfl)
    (pss_one (ps_fld (pv 0) (C8.pe_c c_text_of_places hr (by first | decide | omega) rfl (pa_cons (pv 1) (pa_cons (pe_fldK (K := K) rfl (pv 0) (by rfl)) pa_nil))) rfl)))), ?_⟩
  refine ⟨_, rfl, _, rfl, p, CS K, dx, [], rfl, hp, C0, noat_State_term T, (by show 0 < 1000; decide), ?_⟩
  have s0 : Step (some p) G H G (upd H p (.ins (CS K) dx (putF "term" tv []))) := (Step.refl hG).own hGp
  generalize eF1 : putF "term" tv ([] : List (Str × V)) = F1 at *
  have hp0 : upd H p (.ins (CS K) dx F1) p = some (.ins (CS K) dx F1) := upd_same
  generalize upd H p (.ins (CS K) dx F1) = H0 at *
  refine ⟨_, rfl, wa, rfl, ⟨xs, hwa _ s0.kpc⟩, fun D hD => ?_⟩
  have hD0 : H D = none := s0.free hD
  have npD : p ≠ D := ne_of_none hp0 hD
  refine lc_list (K := K) (a := wa) (xs := xs) (te := tTup (tCons (tVar 3) (tCons (tVar 4) tNil))) (fun i H' => ∃ (G1 : Hp) (ys : List V), Step (some p) G H G1 H' ∧ G1 p = none ∧ G1 D = none ∧ H' D = some (.lst ys) ∧ ys.length = i ∧
    (∀ (j : Nat) (v : V) (q : Nat × Mt), ys[j]? = some v → ws[j]? = some q → WAt (CT K) G1 v q) ∧ (∀ (j : Nat) (v x : V), ys[j]? = some v → xs[j]? = some x → SameT G1 v x) ∧ H' p = some (.ins (CS K) dx F1)) ?_ ?_ ?_ ?_
  · refine ⟨G, [], s0.loc hD0 (hG.free hD0), hGp, hG.free hD0, upd_same, rfl, (fun j v q h => by cases h), (fun j v q h => by cases h), by rw [upd_ne npD]; exact hp0⟩
  · rintro i H' _ ⟨G1, ys, s1, _⟩
    exact hwa _ s1.kpc
  · rintro i x H' hx ⟨G1, ys, s1, g1p, g1D, hDl, rfl, hy, hz, hpp⟩
    obtain ⟨q0, hq0, mq⟩ := get_pair hw.1 hx
    obtain ⟨a1, y, e1, e2, e3⟩ := hw.2 _ x q0 hx hq0
    subst e1
    obtain ⟨ry, _, _, _, _, _, _, ey, _, _⟩ := TAt.obj e3
    subst ey
    have hi : ys.length < ws.length := (List.getElem?_eq_some_iff.mp hq0).1
    have hm := sm.many
    refine ⟨a1, _, rfl, SqT.of (s1.gh _ _ (s1.gg _ _ e2)), rfl, _, _, rfl, _, _, rfl, rfl, rfl, ?_⟩
    unfold tYes
    refine iteT ⟨_, rfl, _, rfl, by show 2 ≤ sizeLine; decide, fun t ht => ?_⟩
    have nDt : D ≠ t := ne_of_none hDl ht
    have npt : p ≠ t := ne_of_none hpp ht
    have g1t : G1 t = none := s1.gh.free ht
    have gg : Same G1 (upd G1 t (.tup [.int (q0.1 : Nat), .ref ry])) := Same.off (Same.refl G1) g1t
    refine ⟨ys, by rw [upd_ne nDt]; exact hDl, by omega, upd G1 t (.tup [.int (q0.1 : Nat), .ref ry]), ys ++ [.ref t], (s1.new_ ht).loc hD0 (by rw [upd_ne nDt]; exact g1D), by rw [upd_ne npt]; exact g1p, by rw [upd_ne nDt]; exact g1D, upd_same, by rw [List.length_append]; rfl, fun j v q h1 h2 => ?_, fun j v x1 h1 h2 => ?_, by rw [upd_ne npD, upd_ne npt]; exact hpp⟩
    · by_cases c : j < ys.length
      · rw [List.getElem?_append_left c] at h1
        exact (hy j v q h1 h2).same gg
      · have hj : j = ys.length := by
          have := (List.getElem?_eq_some_iff.mp h1).1
          rw [List.length_append, List.length_singleton] at this
          omega
        subst hj
        rw [List.getElem?_append_right (Nat.le_refl _), Nat.sub_self] at h1
        cases h1
        rw [hq0] at h2
        cases h2
        exact ⟨t, _, rfl, upd_same, (e3.same s1.gg).same gg⟩
    · by_cases c : j < ys.length
      · rw [List.getElem?_append_left c] at h1
        exact (hz j v x1 h1 h2).same gg
      · have hj : j = ys.length := by
          have := (List.getElem?_eq_some_iff.mp h1).1
          rw [List.length_append, List.length_singleton] at this
          omega
        subst hj
        rw [List.getElem?_append_right (Nat.le_refl _), Nat.sub_self] at h1
        cases h1
        rw [hx] at h2
        cases h2
        exact ⟨t, a1, _, ry, rfl, rfl, upd_same, gg _ _ (s1.gg _ _ e2)⟩
  rintro H' ⟨G1, ys, s1, g1p, g1D, hDl, hlen, hy, hz, hpp⟩
  refine ⟨D, ys, rfl, .inl ⟨SqL.of hDl, fun l hl => ?_⟩⟩
  have npl : p ≠ l := ne_of_none hpp hl
  have g1l : G1 l = none := s1.gh.free hl
  have gg : Same G1 (upd G1 l (.tup ys)) := Same.off (Same.refl G1) g1l
  refine ⟨_, rfl, p, CS K, dx, F1, rfl, (by rw [upd_ne npl]; exact hpp), C0, noat_State_wants T, (by rw [← eF1]; show 1 < 1000; decide), ?_⟩
  have g2p : upd G1 l (.tup ys) p = none := by rw [upd_ne npl]; exact g1p
  have s2 : Step (some p) G H (upd G1 l (.tup ys)) (upd (upd H' l (.tup ys)) p (.ins (CS K) dx (putF "wants" (.ref l) F1))) := (s1.new_ hl).own g2p
  have hw2 : WAts (CT K) (upd G1 l (.tup ys)) ys ws := ⟨by rw [hlen]; exact hw.1, fun j v q a b => (hy j v q a b).same gg⟩
  have hz2 : SameTs (upd G1 l (.tup ys)) ys xs := ⟨hlen, fun j v x a b => (hz j v x a b).same gg⟩
  have lk : (putF "wants" (.ref l) F1).lookup ("wants" : Str) = some (.ref l) := by rw [lookup_putF, if_pos rfl]
  have ho2 := ho.same s2.gg
  have hl2 : upd (upd H' l (.tup ys)) p (.ins (CS K) dx (putF "wants" (.ref l) F1)) l = some (.tup ys) := by rw [upd_ne npl.symm]; exact upd_same
  have hp2 : upd (upd H' l (.tup ys)) p (.ins (CS K) dx (putF "wants" (.ref l) F1)) p = some (.ins (CS K) dx (putF "wants" (.ref l) F1)) := upd_same
  have hg2 : upd G1 l (.tup ys) l = some (.tup ys) := upd_same
  generalize upd (upd H' l (.tup ys)) p (.ins (CS K) dx (putF "wants" (.ref l) F1)) = H2 at *
  generalize upd G1 l (.tup ys) = G2 at *
  refine ⟨_, rfl, _, rfl, p, CS K, dx, _, _, rfl, hp2, C0, noat_State_wants T, lk, G2, tv, l, ys, o, ws, rfl, s2.gh, hl2, hw2, ho2, sm, fun H3 s3 => ?_⟩
  refine ⟨_, rfl, p, CS K, dx, _, rfl, s3.same _ _ hp2, C0, noat_State_text T, (by rw [← eF1]; show 2 < 1000; decide), ?_⟩
  refine q G2 _ l ys ((s2.trans s3.some_).own g2p) g2p hg2 hw2 hz2 ho2 ?_
  rw [upd_same, ← eF1]
  rfl
theorem o_sinitT (T : Tx K mg) : ∃ fd, FnOk P w K mg base C8.CX0 2 (He.ma K (CS K) "__init__") fd ["self", "term", "wants"] (spSInit (CS K) (CT K) (SqT K)) ∧ FunD K "__init__" "State.__init__" (defArgs s_State_init) (defBody s_State_init) (defScope s_State_init) [.non, .ref (He.dflAt ("State", some "__init__") 1 K)] [] (He.ma K (CS K) "__init__") fd := by
  obtain ⟨fd, F⟩ := f_State_init T
  refine ⟨fd, ?_, F⟩
  have c_text_of_places := c_text_of_places (P := P) (w := w) (base := base) T
  refine ok0 F sc_State_init (fun vs H Q E h => ?_) (fun cdv A outer s H vs Q E hr h => ?_)
  · obtain ⟨G, p, dx, wa, tv, xs, o, ws, rfl, _⟩ := h
    rfl
  obtain ⟨G, p, dx, wa, tv, xs, o, ws, rfl, hG, hGp, hp, hwa, hw, ho, sm, q⟩ := h
  have hu := hu_of hr
  have C0 := cls_State_ T
  have sl : sizeLine = 16777216 := rfl
  refine ⟨_, (pss_cons (ps_fld (pv 0) (pv 1) rfl)
    (pss_cons (ps_fld (pv 0) (pe_callTy call_tuple_of (by rfl) (z_tuple T) boot_tuple (pa_cons (pe_lc (own := [("anti", 3), ("wanted", 4)]) rfl sc_State_init.nd (pi_tupK (K := K) rfl (pv 2)) (blkOk_by (N := N_State_init) (sc := defScope s_State_init) (by decide +kernel)) (fun _ _ _ _ _ => (pg_tupK (K := K) (n := 2) rfl rfl (pgs_cons (pg_name (i := 3) sc_State_init.nd rfl (Or.inl rfl)) (pgs_cons (pg_name (i := 4) sc_State_init.nd rfl (Or.inl rfl)) pgs_nil)))) (fun _ _ _ _ _ => pts_nil) (fun _ _ _ _ _ => (pe_tup (pa_cons (pv 3) (pa_cons (pv 4) pa_nil))))) pa_nil)) rfl)
    (pss_one (ps_fld (pv 0) (C8.pe_c c_text_of_places hr (by first | decide | omega) rfl (pa_cons (pv 1) (pa_cons (pe_fldK (K := K) rfl (pv 0) (by rfl)) pa_nil))) rfl)))), ?_⟩
  refine ⟨_, rfl, _, rfl, p, CS K, dx, [], rfl, hp, C0, noat_State_term T, (by show 0 < 1000; decide), ?_⟩
  have s0 : Step (some p) G H G (upd H p (.ins (CS K) dx (putF "term" tv []))) := (Step.refl hG).own hGp
  generalize eF1 : putF "term" tv ([] : List (Str × V)) = F1 at *
  have hp0 : upd H p (.ins (CS K) dx F1) p = some (.ins (CS K) dx F1) := upd_same
  generalize upd H p (.ins (CS K) dx F1) = H0 at *
  refine ⟨_, rfl, wa, rfl, ⟨xs, hwa _ s0.kpc⟩, fun D hD => ?_⟩
  have hD0 : H D = none := s0.free hD
  have npD : p ≠ D := ne_of_none hp0 hD
  refine lc_tup (K := K) (a := wa) (xs := xs) (te := tTup (tCons (tVar 3) (tCons (tVar 4) tNil))) (fun i H' => ∃ (G1 : Hp) (ys : List V), Step (some p) G H G1 H' ∧ G1 p = none ∧ G1 D = none ∧ H' D = some (.lst ys) ∧ ys.length = i ∧
    (∀ (j : Nat) (v : V) (q : Nat × Mt), ys[j]? = some v → ws[j]? = some q → WAt (CT K) G1 v q) ∧ (∀ (j : Nat) (v x : V), ys[j]? = some v → xs[j]? = some x → SameT G1 v x) ∧ H' p = some (.ins (CS K) dx F1)) ?_ ?_ ?_ ?_
  · refine ⟨G, [], s0.loc hD0 (hG.free hD0), hGp, hG.free hD0, upd_same, rfl, (fun j v q h => by cases h), (fun j v q h => by cases h), by rw [upd_ne npD]; exact hp0⟩
  · rintro i H' _ ⟨G1, ys, s1, _⟩
    exact hwa _ s1.kpc
  · rintro i x H' hx ⟨G1, ys, s1, g1p, g1D, hDl, rfl, hy, hz, hpp⟩
    obtain ⟨q0, hq0, mq⟩ := get_pair hw.1 hx
    obtain ⟨a1, y, e1, e2, e3⟩ := hw.2 _ x q0 hx hq0
    subst e1
    obtain ⟨ry, _, _, _, _, _, _, ey, _, _⟩ := TAt.obj e3
    subst ey
    have hi : ys.length < ws.length := (List.getElem?_eq_some_iff.mp hq0).1
    have hm := sm.many
    refine ⟨a1, _, rfl, SqT.of (s1.gh _ _ (s1.gg _ _ e2)), rfl, _, _, rfl, _, _, rfl, rfl, rfl, ?_⟩
    unfold tYes
    refine iteT ⟨_, rfl, _, rfl, by show 2 ≤ sizeLine; decide, fun t ht => ?_⟩
    have nDt : D ≠ t := ne_of_none hDl ht
    have npt : p ≠ t := ne_of_none hpp ht
    have g1t : G1 t = none := s1.gh.free ht
    have gg : Same G1 (upd G1 t (.tup [.int (q0.1 : Nat), .ref ry])) := Same.off (Same.refl G1) g1t
    refine ⟨ys, by rw [upd_ne nDt]; exact hDl, by omega, upd G1 t (.tup [.int (q0.1 : Nat), .ref ry]), ys ++ [.ref t], (s1.new_ ht).loc hD0 (by rw [upd_ne nDt]; exact g1D), by rw [upd_ne npt]; exact g1p, by rw [upd_ne nDt]; exact g1D, upd_same, by rw [List.length_append]; rfl, fun j v q h1 h2 => ?_, fun j v x1 h1 h2 => ?_, by rw [upd_ne npD, upd_ne npt]; exact hpp⟩
    · by_cases c : j < ys.length
      · rw [List.getElem?_append_left c] at h1
        exact (hy j v q h1 h2).same gg
      · have hj : j = ys.length := by
          have := (List.getElem?_eq_some_iff.mp h1).1
          rw [List.length_append, List.length_singleton] at this
          omega
        subst hj
        rw [List.getElem?_append_right (Nat.le_refl _), Nat.sub_self] at h1
        cases h1
        rw [hq0] at h2
        cases h2
        exact ⟨t, _, rfl, upd_same, (e3.same s1.gg).same gg⟩
    · by_cases c : j < ys.length
      · rw [List.getElem?_append_left c] at h1
        exact (hz j v x1 h1 h2).same gg
      · have hj : j = ys.length := by
          have := (List.getElem?_eq_some_iff.mp h1).1
          rw [List.length_append, List.length_singleton] at this
          omega
        subst hj
        rw [List.getElem?_append_right (Nat.le_refl _), Nat.sub_self] at h1
        cases h1
        rw [hx] at h2
        cases h2
        exact ⟨t, a1, _, ry, rfl, rfl, upd_same, gg _ _ (s1.gg _ _ e2)⟩
  rintro H' ⟨G1, ys, s1, g1p, g1D, hDl, hlen, hy, hz, hpp⟩
  refine ⟨D, ys, rfl, .inl ⟨SqL.of hDl, fun l hl => ?_⟩⟩
  have npl : p ≠ l := ne_of_none hpp hl
  have g1l : G1 l = none := s1.gh.free hl
  have gg : Same G1 (upd G1 l (.tup ys)) := Same.off (Same.refl G1) g1l
  refine ⟨_, rfl, p, CS K, dx, F1, rfl, (by rw [upd_ne npl]; exact hpp), C0, noat_State_wants T, (by rw [← eF1]; show 1 < 1000; decide), ?_⟩
  have g2p : upd G1 l (.tup ys) p = none := by rw [upd_ne npl]; exact g1p
  have s2 : Step (some p) G H (upd G1 l (.tup ys)) (upd (upd H' l (.tup ys)) p (.ins (CS K) dx (putF "wants" (.ref l) F1))) := (s1.new_ hl).own g2p
  have hw2 : WAts (CT K) (upd G1 l (.tup ys)) ys ws := ⟨by rw [hlen]; exact hw.1, fun j v q a b => (hy j v q a b).same gg⟩
  have hz2 : SameTs (upd G1 l (.tup ys)) ys xs := ⟨hlen, fun j v x a b => (hz j v x a b).same gg⟩
  have lk : (putF "wants" (.ref l) F1).lookup ("wants" : Str) = some (.ref l) := by rw [lookup_putF, if_pos rfl]
  have ho2 := ho.same s2.gg
  have hl2 : upd (upd H' l (.tup ys)) p (.ins (CS K) dx (putF "wants" (.ref l) F1)) l = some (.tup ys) := by rw [upd_ne npl.symm]; exact upd_same
  have hp2 : upd (upd H' l (.tup ys)) p (.ins (CS K) dx (putF "wants" (.ref l) F1)) p = some (.ins (CS K) dx (putF "wants" (.ref l) F1)) := upd_same
  have hg2 : upd G1 l (.tup ys) l = some (.tup ys) := upd_same
  generalize upd (upd H' l (.tup ys)) p (.ins (CS K) dx (putF "wants" (.ref l) F1)) = H2 at *
  generalize upd G1 l (.tup ys) = G2 at *
  refine ⟨_, rfl, _, rfl, p, CS K, dx, _, _, rfl, hp2, C0, noat_State_wants T, lk, G2, tv, l, ys, o, ws, rfl, s2.gh, hl2, hw2, ho2, sm, fun H3 s3 => ?_⟩
  refine ⟨_, rfl, p, CS K, dx, _, rfl, s3.same _ _ hp2, C0, noat_State_text T, (by rw [← eF1]; show 2 < 1000; decide), ?_⟩
  refine q G2 _ l ys ((s2.trans s3.some_).own g2p) g2p hg2 hw2 hz2 ho2 ?_
  rw [upd_same, ← eF1]
  rfl
end Pf
namespace Bs
open PySem PySem.Spec PyProof.Rows L2 SX
variable {P : Program} {w : World} {K : PySem.W.Frag} {mg : Str → Option Value} {base : Heap} {X : Cx}
theorem sqL_from {H H1 H2 : Hp} {x wa : Addr} {xs : List V} (h : SqL K H wa xs) (hx : H x = none) (s : Same H H1) (k : Kp x H1 H2) : SqL K H2 wa xs := by
  rcases h with (h | ⟨o, h⟩) | h
  · exact .inl (.inl (k _ _ (s _ _ h) (ne_of_none h hx)))
  · exact .inl (.inr ⟨o, k _ _ (s _ _ h) (ne_of_none h hx)⟩)
  · exact .inr h
theorem sqT_from {H H1 H2 : Hp} {x wa : Addr} {xs : List V} (h : SqT K H wa xs) (hx : H x = none) (s : Same H H1) (k : Kp x H1 H2) : SqT K H2 wa xs := by
  rcases h with (h | ⟨o, h⟩) | h
  · exact .inl (.inl (k _ _ (s _ _ h) (ne_of_none h hx)))
  · exact .inl (.inr ⟨o, k _ _ (s _ _ h) (ne_of_none h hx)⟩)
  · exact .inr h
/-- the wants of a state made now hold what the list handed in holds -/
def Wn (CS : Addr) (G : Hp) (x : Addr) (xs : List V) : Prop := ∃ (dx wa : Addr) (tv : V) (vs : List V) (t : List Nat), G x = some (.ins CS dx (sf tv wa t)) ∧ G wa = some (.tup vs) ∧ SameTs G vs xs
theorem Wn.same {CS : Addr} {G G' : Hp} {x : Addr} {xs : List V} (h : Wn CS G x xs) (s : Same G G') : Wn CS G' x xs := by
  obtain ⟨dx, wa, tv, vs, t, h1, h2, h3⟩ := h
  exact ⟨dx, wa, tv, vs, t, s _ _ h1, s _ _ h2, h3.same s⟩
theorem make_state {G H : Hp} {CS C wa : Addr} {tv : V} {xs : List V} {o : Option Mt} {ws : List (Nat × Mt)} {Q : Addr → VK} {E : XK} {Sq : Hp → Addr → List V → Prop} (hG : Same G H) (hs : ∀ (x : Addr) (H1 H2 : Hp), H x = none → Same H H1 → Kp x H1 H2 → Sq H2 wa xs)
    (hw : WAts C G xs ws) (ho : OAt C G tv o) (sm : Sml o ws) (q : ∀ (G' H' : Hp) (x : Addr), Step none G H G' H' → SAt CS C G' x o ws → Wn CS G' x xs → H x = none → Q x .non H') :
    ∀ x dx, H x = none → H dx = none → dx ≠ x → spSInit CS C Sq [.ref x, tv, .ref wa] (upd (upd H dx (.own x)) x (.ins CS dx [])) (Q x) E := by
  intro x dx hx hdx ne
  have hx1 : upd H dx (.own x) x = none := by rw [upd_ne (fun z => ne z.symm)]; exact hx
  have s1 : Same H (upd (upd H dx (.own x)) x (.ins CS dx [])) := Same.new (Same.new (Same.refl H) hdx) hx1
  have hGx : G x = none := hG.free hx
  refine ⟨G, x, dx, wa, tv, xs, o, ws, rfl, hG.trans s1, hGx, upd_same, fun H1 k => hs x _ _ hx s1 k, hw, ho, sm, fun G1 H' wn vs st gp hwn hv hz hov hp => ?_⟩
  have gg : Same G1 (upd G1 x (.ins CS dx (sf tv wn (stx o ws)))) := Same.off (Same.refl G1) gp
  refine q (upd G1 x (.ins CS dx (sf tv wn (stx o ws)))) H' x ⟨st.gg.trans gg, fun c u e => ?_, fun c hc => ?_, fun c u e _ => ?_, fun c z => by cases z⟩ ⟨dx, wn, tv, vs, upd_same, gg _ _ hwn, hv.same gg, hov.same gg⟩ ⟨dx, wn, tv, vs, _, upd_same, gg _ _ hwn, hz.same gg⟩ hx
  · by_cases e1 : c = x
    · subst e1; rw [upd_same] at e; rw [hp]; exact e
    · rw [upd_ne e1] at e
      exact st.gh _ _ e
  · by_cases e1 : c = x
    · subst e1; exact .inr hx
    · rw [upd_ne e1] at hc
      rcases st.new c hc with h | h
      · exact .inl h
      · exact .inr (s1.free h)
  · have e1 : c ≠ x := fun z => by rw [z, hx] at e; cases e
    exact st.kp c u (s1 c u e) (fun z => e1 (Option.some.inj z))
/-- C() -/
theorem pe_mk0 {k j : Nat} {x : Str} {C : Addr} {sp : Sp} {dvs : List V} {p pos : Pos} (c : C8.Mak X.prog X.w X.K X.mg X.base k x C sp dvs) (hr : Room j X.A) (hk : k + 1 ≤ j) (hg : Gl X x) (hdb : (x == ("__debug__" : Str)) = false := by decide) :
    PE X (.Call (.Name x p) [] [] pos) (tMake C sp dvs C8.E0 tNil) := by
  obtain ⟨f, fd, ps, ds, M, F, hm, b, d⟩ := c.ex
  exact pe_make0 M F (hr.mono hk) hg hm b d C8.pass0 hdb
theorem etB_ok {a : Addr} (h : Hd.etB K a = true) : ∀ H : Hp, SqT K H a [] := by
  intro H
  unfold Hd.etB at h
  split at h
  · rename_i vs sl e
    obtain ⟨h1, _⟩ := Bool.and_eq_true_iff.mp h
    have hv : vs = #[] := by simpa using h1
    subst hv
    exact .inr ⟨_, #[], 0, e, rfl, rfl, Nat.zero_le _, .nil⟩
  · cases h
def spEqS (CS C : Addr) (K : PySem.W.Frag) : Addr → V → Bool → Hp → Prop := fun a y r H => ∃ (G : Hp) (o : Option Mt) (ws : List (Nat × Mt)), Same G H ∧ SAt CS C G a o ws ∧
  ((∃ (b : Addr) (o2 : Option Mt) (ws2 : List (Nat × Mt)), y = .ref b ∧ SAt CS C G b o2 ws2 ∧ r = decide (stx o ws = stx o2 ws2)) ∨ (r = false ∧ ∃ t : String, t ∈ ["NoneType", "bool", "int", "str", "list", "tuple", "dict"] ∧ TyX K H y (.type t)))
def spStrS (CS C : Addr) : Addr → Str → Hp → Prop := fun a x H => ∃ (G : Hp) (o : Option Mt) (ws : List (Nat × Mt)), Same G H ∧ SAt CS C G a o ws ∧ x = S (stx o ws)
end Bs
namespace Pf
open PySem PySem.Spec PyProof.Rows L2 Bs SX
variable {P : Program} {w : World} {K : PySem.W.Frag} {mg : Str → Option Value} {base : Heap}
theorem kk_State (T : Tx K mg) : MakK P w K mg base 2 "State" (CS K) (spSInit (CS K) (CT K) (SqL K)) ["term", "wants"] := by
  obtain ⟨fd, O, F⟩ := o_sinit (P := P) (w := w) (base := base) T
  obtain ⟨its, hb⟩ := F.kbindsD (ps := ["self", "term", "wants"]) 1 ["term", "wants"] (fun us its ws => us ++ ws) (by simp) (fun r1 _ r2 => r1.append r2) fun _ _ _ _ _ _ _ us its ws hl hi hw => match us, its, ws, hl, hi, hw with | [_], [_, _], [_, _], _, _, _ => ⟨_, rfl, rfl⟩
  exact ⟨_, fd, _, _, mkr_State_ T, O, g_State T, hb⟩
theorem m_State0 (T : Tx K mg) : C8.Mak P w K mg base 2 "State" (CS K) (spSInit (CS K) (CT K) (SqT K)) [.non, .ref (He.dflAt ("State", some "__init__") 1 K)] := by
  obtain ⟨fd, O, F⟩ := o_sinitT (P := P) (w := w) (base := base) T
  obtain ⟨ds, hv, hb⟩ := F.binds1 (ps := ["self", "term", "wants"]) 1 0 (by simp) (by rfl) fun _ _ _ _ _ _ _ us its hl hi => match us, its, hl, hi with | [_], [_, _], _, _ => ⟨_, rfl, rfl⟩
  exact ⟨_, fd, _, ds, mkr_State_ T, O, g_State T, hb, hv⟩
abbrev N_State_eq : List Str := ["self", "other"]
theorem sc_State_eq : FnScope N_State_eq ["self", "other"] (defScope s_State_eq) := ⟨rfl, rfl, rfl, by decide +kernel, rfl, by decide +kernel, by decide +kernel⟩
theorem o_eqS (T : Tx K mg) : ∃ fd, FnOk P w K mg base C8.CX0 1 (He.ma K (CS K) "__eq__") fd ["self", "other"] (spCmp (spEqS (CS K) (CT K) K)) ∧ Binds K fd ["self", "other"] [] := by
  obtain ⟨fd, F⟩ := f_State_eq T
  refine ⟨fd, ok0 F sc_State_eq (fun vs H Q E h => ?_) (fun cdv A outer s H vs Q E hr h => ?_), F.bindsN fun _ _ _ _ _ _ us hl => match us, hl with | [_, _], _ => rfl⟩
  · obtain ⟨a, y, r, rfl, _⟩ := h
    rfl
  obtain ⟨a, y, r, rfl, ⟨G, o, ws, hG, ha, hy⟩, q⟩ := h
  have C0 := cls_State_ T
  have I0 := Hd.insB_ok (ex_4 T)
  have pe_g_State : ∀ {X : Cx} {pos : Pos}, X.mg = mg → Gl X "State" → PE X (.Name "State" pos) (tC (.ref (CS K))) := fun h1 h2 => C8.pe_gc h2 ⟨_, by rw [h1]; exact g_State T, rfl⟩
  refine ⟨_, (pss_one (ps_ret (pe_and (pe_callB (call_isiK' (K := K) rfl) (by rfl) (z_isinstance T) boot_isinstance (pa_cons (pv 1) (pa_cons (pe_g_State rfl rfl) pa_nil))) (pe_one (pe_cmpR op_eq (pe_fldK (K := K) rfl (pv 0) (by rfl)) (pe_fldK (K := K) rfl (pv 1) (by rfl)) (nomark _)))))), ?_⟩
  obtain ⟨dx, wa, tv, vs, e3, _⟩ := ha.ex
  rcases hy with ⟨b, o2, ws2, rfl, hm2, er⟩ | ⟨er, t, ht, ty⟩
  · obtain ⟨dx2, wa2, tv2, vs2, f3, _⟩ := hm2.ex
    refine ⟨_, rfl, .ref b, .ref (CS K), .ref (CS K), .ref (CS K), true, rfl, .own _, .base (.ins (hG _ _ f3) C0 I0.ha I0.hn I0.htk I0.hm), I0.me, true, rfl, iteT ?_⟩
    refine ⟨_, rfl, a, CS K, dx, _, _, rfl, hG _ _ e3, C0, noat_State_text T, sf_text, _, rfl, b, CS K, dx2, _, _, rfl, hG _ _ f3, C0, noat_State_text T, sf_text, rfl, ?_⟩
    have e4 : decide (V.str (S (stx o ws)) = V.str (S (stx o2 ws2))) = r := by
      rw [er]
      by_cases c : stx o ws = stx o2 ws2
      · rw [c, decide_eq_true rfl, decide_eq_true rfl]
      · rw [decide_eq_false c, decide_eq_false fun h => c (S_inj (V.str.inj h))]
    rw [e4]
    exact q
  · have kk := Hd.kitsB_ok (ex_5 T) ht
    refine ⟨_, rfl, y, .ref (CS K), .type t, .ref (CS K), false, rfl, .own _, ty, kk.1, false, rfl, iteF ?_⟩
    rw [← er]
    exact q
abbrev N_State_str : List Str := ["self"]
theorem sc_State_str : FnScope N_State_str ["self"] (defScope s_State_str) := ⟨rfl, rfl, rfl, by decide +kernel, rfl, by decide +kernel, by decide +kernel⟩
theorem o_strS (T : Tx K mg) : ∃ fd, FnOk P w K mg base C8.CX0 1 (He.ma K (CS K) "__str__") fd ["self"] (spStr (spStrS (CS K) (CT K))) ∧ Binds K fd ["self"] [] := by
  obtain ⟨fd, F⟩ := f_State_str T
  refine ⟨fd, ok0 F sc_State_str (fun vs H Q E h => ?_) (fun cdv A outer s H vs Q E hr h => ?_), F.bindsN fun _ _ _ _ _ _ us hl => match us, hl with | [_], _ => rfl⟩
  · obtain ⟨a, x, rfl, _⟩ := h
    rfl
  obtain ⟨a, x, rfl, ⟨G, o, ws, hG, ha, ex⟩, q⟩ := h
  obtain ⟨dx, wa, tv, vs, e3, _⟩ := ha.ex
  refine ⟨_, (pss_one (ps_ret (pe_callTy SkE.call_str_str (by rfl) (z_str T) boot_str (pa_cons (pe_fldK (K := K) rfl (pv 0) (by rfl)) pa_nil)))), ?_⟩
  refine ⟨_, rfl, a, CS K, dx, _, _, rfl, hG _ _ e3, cls_State_ T, noat_State_text T, sf_text, _, rfl, ?_⟩
  rw [← ex]
  exact q
theorem own_eq_State (T : Tx K mg) {X : Cx} (h1 : X.prog = P) (h2 : X.w = w) (h3 : X.K = K) (h4 : X.mg = mg) (h5 : X.base = base) : OwnE X 1 (CS K) (spEqS (CS K) (CT K) K) := by
  subst h1 h2 h3 h4 h5
  obtain ⟨fd, O, b⟩ := o_eqS (P := X.prog) (w := X.w) (base := X.base) T
  exact ⟨⟨_, fd, _, O, (meth_State_eq T).at_, (meth_State_eq T).fn, b⟩, (Hd.insB_ok (ex_4 T)).hm, He.eqO_ok (ex_6 T)⟩
theorem own_str_State (T : Tx K mg) {X : Cx} (h1 : X.prog = P) (h2 : X.w = w) (h3 : X.K = K) (h4 : X.mg = mg) (h5 : X.base = base) : OwnS X 1 (CS K) (spStrS (CS K) (CT K)) := by
  subst h1 h2 h3 h4 h5
  obtain ⟨fd, O, b⟩ := o_strS (P := X.prog) (w := X.w) (base := X.base) T
  exact ⟨⟨_, fd, _, O, (meth_State_str T).at_, (meth_State_str T).fn, b⟩⟩
end Pf
namespace Bs
open PySem PySem.Spec PyProof.Rows L2 SX
variable {P : Program} {w : World} {K : PySem.W.Frag} {mg : Str → Option Value} {base : Heap} {X : Cx}
abbrev asc (l : List Nat) : Prop := ∀ c ∈ l, c < 128
theorem asc_cat {a b : List Nat} (h : asc a) (g : asc b) : asc (a ++ b) := fun c hc => (List.mem_append.mp hc).elim (h c) (g c)
def spTermL (C : Addr) : Sp := fun vs H Q _ => ∃ (G : Hp) (p : Addr), vs = [.ref p] ∧ Pk G H p ∧
  ∀ (G' H' : Hp) (a : Addr) (x : V) (m : Mt), Step (some p) G H G' H' → Pk G' H' p → G' a = some (.tup [x, .str (S m.txt)]) → TAt C G' x m → m.txt.length ≤ 100 → asc m.txt → Q (.ref a) H'
theorem pick3 {a b c : Str} {x y z : List Nat} (ha : a = S x) (hb : b = S y) (hc : c = S z) (hx : x.length ≤ 8) (hy : y.length ≤ 8) (hz : z.length ≤ 8) (gx : asc x) (gy : asc y) (gz : asc z) {d : Int} (h0 : 0 ≤ d) (h1 : d < 3) :
    ∃ w : List Nat, atI [V.str a, .str b, .str c] d = some (.str (S w)) ∧ w.length ≤ 8 ∧ asc w := by
  obtain ⟨v, hv, hm, _⟩ := atI_of (xs := [V.str a, .str b, .str c]) h0 h1
  simp only [List.mem_cons, List.mem_nil_iff, or_false] at hm
  rcases hm with rfl | rfl | rfl
  · exact ⟨x, by rw [hv, ha], hx, gx⟩
  · exact ⟨y, by rw [hv, hb], hy, gy⟩
  · exact ⟨z, by rw [hv, hc], hz, gz⟩
/-- a term made now -/
theorem Pk.went {G H G1 H1 : Hp} {p : Addr} (h : Pk G H p) (s : Step none G H G1 H1) : Step (some p) G H G1 H1 ∧ Pk G1 H1 p := ⟨s.some_, h.step s⟩
theorem Pk.new_ {G H : Hp} {p q : Addr} {o : HO} (h : Pk G H p) (hq : H q = none) : Step (some p) G H (upd G q o) (upd H q o) ∧ Pk (upd G q o) (upd H q o) p := h.went ((Step.refl h.gh).new_ hq)
theorem fn_call {G H : Hp} {p : Addr} {C : Addr} {so : So} {x0 : V} {xs : List V} {ts : List Mt} {w : List Nat} {Q : VK} {E : XK} (hP : Pk G H p) (h0 : x0 = .str (S w)) (hlen : xs.length = ts.length) (hts : ∀ (i : Nat) (v : V) (t : Mt), xs[i]? = some v → ts[i]? = some t → TAt C G v t) (sh : Shp so w ts)
    (q : ∀ (G' H' : Hp) (a : Addr), Step (some p) G H G' H' → Pk G' H' p → TAt C G' (.ref a) (.mk so w ts false) → Q (.ref a) H') : spFnR so C (x0 :: xs) H Q E := by
  subst h0
  have h3 := sh.t3
  have sl : sizeLine = 16777216 := rfl
  refine ⟨[.str (S w)], xs, rfl, rfl, by omega, fun t ht => ?_⟩
  have s0 : Step none G H G (upd H t (.tup xs)) := (Step.refl hP.gh).loc ht (hP.gh.free ht)
  refine ⟨G, t, w, xs, ts, rfl, s0.gh, upd_same, hlen, hts, sh, fun G' H' a st ht' _ => ?_⟩
  obtain ⟨s1, P1⟩ := hP.went (s0.trans st)
  exact q G' H' a s1 P1 ht'
def colM (w1 w2 : List Nat) : Mt := .mk .column w2 [.mk .row w1 [] false] false
theorem col_txt (w1 w2 : List Nat) : (colM w1 w2).txt = w1 ++ [46] ++ w2 := by simp [colM, Mt.txt_mk, tx]
theorem two_row {C : Addr} {G : Hp} {x y : V} {t u : Mt} (h : TAt C G x t) (h2 : TAt C G y u) : ∀ (i : Nat) (v : V) (m : Mt), [x, y][i]? = some v → [t, u][i]? = some m → TAt C G v m := fun i v m e1 e2 => by
  match i with
  | 0 => cases e1; cases e2; exact h
  | 1 => cases e1; cases e2; exact h2
  | i + 2 => cases e1
end Bs
namespace Pf
open PySem PySem.Spec PyProof.Rows L2 Bs SX
variable {P : Program} {w : World} {K : PySem.W.Frag} {mg : Str → Option Value} {base : Heap}
theorem c_place_term1 (T : Tx K mg) : C8.Cal P w K mg base 7 "place_term" (spPlace (CT K)) [.bl false] := by
  obtain ⟨fd, O, F⟩ := o_place_term (P := P) (w := w) (base := base) T
  obtain ⟨ds, hv, hb⟩ := F.binds1 (ps := ["table", "marked"]) 1 0 (by simp) (by rfl) fun _ _ _ _ _ _ _ us its hl hi => match us, its, hl, hi with | [_], [_], _, _ => ⟨_, rfl, rfl⟩
  exact ⟨_, fd, _, ds, O, g_place_term T, F.kp, hb, hv⟩
theorem c_column_term2 (T : Tx K mg) : C8.Cal P w K mg base 7 "column_term" (spCol (CT K)) [.bl false] := by
  obtain ⟨fd, O, F⟩ := o_column_term (P := P) (w := w) (base := base) T
  obtain ⟨ds, hv, hb⟩ := F.binds1 (ps := ["table", "name", "marked"]) 2 0 (by simp) (by rfl) fun _ _ _ _ _ _ _ us its hl hi => match us, its, hl, hi with | [_, _], [_], _, _ => ⟨_, rfl, rfl⟩
  exact ⟨_, fd, _, ds, O, g_column_term T, F.kp, hb, hv⟩
abbrev N_Lterm : List Str := ["_law_pen_here", "_law_name", "_law_column", "_law_way", "_law_one", "_law_text"]
theorem sc_Lterm : FnScope N_Lterm ["_law_pen_here"] (defScope s_Lterm) := ⟨rfl, rfl, rfl, by decide +kernel, rfl, by decide +kernel, by decide +kernel⟩
theorem c_Lterm (T : Tx K mg) : C8.Cal P w K mg base 9 "_law_term" (spTermL (CT K)) [] := by
  obtain ⟨fd, F⟩ := f_Lterm T
  have c_Ldraw := c_Ldraw (P := P) (w := w) (base := base) T
  have c_zero_term := c_zero_term (P := P) (w := w) (base := base) T
  have c_place_term1 := c_place_term1 (P := P) (w := w) (base := base) T
  have c_column_term2 := c_column_term2 (P := P) (w := w) (base := base) T
  have r_rule_term := r_rule_term (P := P) (w := w) (base := base) T
  have r_function_term := r_function_term (P := P) (w := w) (base := base) T
  show C8.Cal P w K mg base (8 + 1) _ _ _
  refine mkCal F (g_law_term T) (F.bindsN fun _ _ _ _ _ _ us hl => match us, hl with | [_], _ => rfl) .nil sc_Lterm (fun vs H Q E h => ?_) (fun cdv A outer s H vs Q E hr h => ?_)
  · obtain ⟨G, p, rfl, _⟩ := h
    rfl
  obtain ⟨G, p, rfl, hP, q⟩ := h
  have hu := hu_of hr
  have sl : sizeLine = 16777216 := rfl
  refine ⟨_, (pss_cons (ps_set (i := 1) sc_Lterm.nd rfl (Or.inl rfl) (pe_ix (ix_listK (K := K) rfl) (pe_lst (pa_cons pe_str (pa_cons pe_str (pa_cons pe_str pa_nil)))) (C8.pe_c c_Ldraw hr (by first | decide | omega) rfl (pa_cons (pv 0) (pa_cons pe_int pa_nil))) (fun _ _ => rfl)))
    (pss_cons (ps_set (i := 2) sc_Lterm.nd rfl (Or.inl rfl) (pe_ix (ix_listK (K := K) rfl) (pe_lst (pa_cons pe_str (pa_cons pe_str (pa_cons pe_str pa_nil)))) (C8.pe_c c_Ldraw hr (by first | decide | omega) rfl (pa_cons (pv 0) (pa_cons pe_int pa_nil))) (fun _ _ => rfl)))
    (pss_cons (ps_set (i := 3) sc_Lterm.nd rfl (Or.inl rfl) (C8.pe_c c_Ldraw hr (by first | decide | omega) rfl (pa_cons (pv 0) (pa_cons pe_int pa_nil))))
    (pss_cons (ps_if (pt_cmpR op_eq (pv 3) pe_int (nomark _)) (pss_one (ps_ret (pe_tup (pa_cons (pe_c0 c_zero_term hr (by first | decide | omega) rfl) (pa_cons pe_str pa_nil))))) pss_nil)
    (pss_cons (ps_if (pt_cmpR op_eq (pv 3) pe_int (nomark _)) (pss_one (ps_ret (pe_tup (pa_cons (C8.pe_c c_place_term1 hr (by first | decide | omega) rfl (pa_cons (pv 1) pa_nil)) (pa_cons (pe_op op_add_str pe_str (pv 1)) pa_nil))))) pss_nil)
    (pss_cons (ps_set (i := 4) sc_Lterm.nd rfl (Or.inl rfl) (C8.pe_c c_column_term2 hr (by first | decide | omega) rfl (pa_cons (pv 1) (pa_cons (pv 2) pa_nil))))
    (pss_cons (ps_set (i := 5) sc_Lterm.nd rfl (Or.inl rfl) (pe_op op_add_str (pe_op op_add_str (pv 1) pe_str) (pv 2)))
    (pss_cons (ps_if (pt_cmpR op_eq (pv 3) pe_int (nomark _)) (pss_one (ps_ret (pe_tup (pa_cons (pe_r r_rule_term hr (by first | decide | omega) rfl (pa_cons pe_str (pa_cons (pv 4) pa_nil))) (pa_cons (pe_op op_add_str (pe_op op_add_str pe_str (pv 5)) pe_str) pa_nil))))) pss_nil)
    (pss_cons (ps_if (pt_cmpR op_eq (pv 3) pe_int (nomark _)) (pss_one (ps_ret (pe_tup (pa_cons (pe_r r_rule_term hr (by first | decide | omega) rfl (pa_cons pe_str (pa_cons (pv 4) (pa_cons (pv 4) pa_nil)))) (pa_cons (pe_op op_add_str (pe_op op_add_str (pe_op op_add_str (pe_op op_add_str pe_str (pv 5)) pe_str) (pv 5)) pe_str) pa_nil))))) pss_nil)
    (pss_one (ps_ret (pe_tup (pa_cons (pe_r r_rule_term hr (by first | decide | omega) rfl (pa_cons pe_str (pa_cons (pe_r r_function_term hr (by first | decide | omega) rfl (pa_cons pe_str (pa_cons (pv 4) pa_nil))) (pa_cons (pv 4) pa_nil)))) (pa_cons (pe_op op_add_str (pe_op op_add_str (pe_op op_add_str (pe_op op_add_str pe_str (pv 5)) pe_str) (pv 5)) pe_str) pa_nil)))))))))))))), ?_⟩
  refine ⟨by show 3 ≤ sizeLine; decide, fun l1 h1 => ?_⟩
  obtain ⟨s1, P1⟩ := hP.new_ (o := .lst [.str "t", .str "orders", .str "a_1"]) h1
  refine ⟨_, rfl, _, p, 3, rfl, P1, by decide, by decide, fun d1 G2 H2 s2 P2 a1 b1 => ?_⟩
  obtain ⟨w1, e1, lw1, aw1⟩ := pick3 (a := "t") (b := "orders") (c := "a_1") (x := [116]) (y := [111, 114, 100, 101, 114, 115]) (z := [97, 95, 49]) (by decide +kernel) (by decide +kernel) (by decide +kernel) (by decide) (by decide) (by decide) (by decide) (by decide) (by decide) a1 b1
  refine ⟨l1, _, d1, _, rfl, rfl, SqL.of (s2.gh _ _ (s2.gg _ _ upd_same)), e1, ?_⟩
  have s12 := s1.trans s2
  refine ⟨by show 3 ≤ sizeLine; decide, fun l2 h2 => ?_⟩
  obtain ⟨s3, P3⟩ := P2.new_ (o := .lst [.str "k", .str "c2", .str "city_of"]) h2
  refine ⟨_, rfl, _, p, 3, rfl, P3, by decide, by decide, fun d2 G4 H4 s4 P4 a2 b2 => ?_⟩
  obtain ⟨w2, e2, lw2, aw2⟩ := pick3 (a := "k") (b := "c2") (c := "city_of") (x := [107]) (y := [99, 50]) (z := [99, 105, 116, 121, 95, 111, 102]) (by decide +kernel) (by decide +kernel) (by decide +kernel) (by decide) (by decide) (by decide) (by decide) (by decide) (by decide) a2 b2
  refine ⟨l2, _, d2, _, rfl, rfl, SqL.of (s4.gh _ _ (s4.gg _ _ upd_same)), e2, ?_⟩
  have s14 := (s12.trans s3).trans s4
  refine ⟨_, rfl, _, p, 5, rfl, P4, by decide, by decide, fun d3 G5 H5 s5 P5 a3 b3 => ?_⟩
  have s15 := s14.trans s5
  have fin : ∀ {G6 H6 : Hp} {x : V} {m : Mt} {t : List Nat}, Step (some p) G5 H5 G6 H6 → Pk G6 H6 p → TAt (CT K) G6 x m → m.txt = t → t.length ≤ 100 → asc t → ∀ a, H6 a = none → Q (.ref a) (upd H6 a (.tup [x, .str (S t)])) := fun {G6 H6 x m t} s6 P6 hx e l as a ha => by
    subst e
    obtain ⟨s7, P7⟩ := P6.new_ (o := .tup [x, .str (S m.txt)]) ha
    exact q _ _ a x m ((s15.trans s6).trans s7) P7 upd_same (hx.same s7.gg) l as
  have r_ : ("r" : Str) = S [114] := by decide +kernel
  have q0_ : ("q" : Str) = S [113] := by decide +kernel
  have f_ : ("f" : Str) = S [102] := by decide +kernel
  have rl_ : ("r[" : Str) = S [114, 91] := by decide +kernel
  have ql_ : ("q[" : Str) = S [113, 91] := by decide +kernel
  have rf_ : ("r[f(" : Str) = S [114, 91, 102, 40] := by decide +kernel
  have pc_ : ("), " : Str) = S [41, 44, 32] := by decide +kernel
  refine ⟨_, rfl, rfl, _, rfl, ?_⟩
  refine ite2 (fun c0 => ?_) (fun c0 => ?_)
  · refine ⟨G5, rfl, P5.gh, fun G6 H6 x s6 tx6 _ => ?_⟩
    obtain ⟨s6', P6⟩ := P5.went s6
    refine ⟨by show 2 ≤ sizeLine; decide, ?_⟩
    show ∀ a, H6 a = none → Q (.ref a) (upd H6 a (.tup [.ref x, .str "0"]))
    rw [zero_]
    exact fin s6' P6 tx6 (by simp [Mt.txt_mk, tx]) (by simp) (by decide)
  refine ⟨_, rfl, rfl, _, rfl, ?_⟩
  refine ite2 (fun c1 => ?_) (fun c1 => ?_)
  · refine ⟨_, rfl, G5, w1, false, rfl, P5.gh, lw1, fun G6 H6 x s6 tx6 _ => ?_⟩
    obtain ⟨s6', P6⟩ := P5.went s6
    refine ⟨_, rfl, _, _, rfl, rfl, by rw [at__, S_len, S_len]; simp; omega, by show 2 ≤ sizeLine; decide, ?_⟩
    rw [at__, S_cat]
    exact fin s6' P6 tx6 (by simp [Mt.txt_mk, tx]) (by simp; omega) (asc_cat (by decide) aw1)
  refine ⟨_, rfl, _, rfl, G5, w1, w2, false, rfl, P5.gh, lw1, lw2, fun G6 H6 x s6 tx6 _ => ?_⟩
  obtain ⟨s6', P6⟩ := P5.went s6
  have tx6' : TAt (CT K) G6 (.ref x) (colM w1 w2) := tx6
  have lc : (w1 ++ [46] ++ w2).length ≤ 17 := by simp; omega
  refine ⟨_, rfl, _, _, rfl, rfl, by rw [dot_, S_len, S_len]; simp; omega, _, rfl, _, _, rfl, rfl, by rw [dot_, S_cat, S_len, S_len]; simp; omega, ?_⟩
  rw [dot_, S_cat, S_cat]
  have shp1 : ∀ {so : So} {w : List Nat} {ts : List Mt}, (so = .func ∨ so = .rule) → w.length ≤ 8 → ts.length ≤ 3 → (∀ t ∈ ts, t.txt.length ≤ 100) → Shp so w ts := fun {so w ts} h1 h2 h3 h4 => ⟨h2, h3, fun t ht => Nat.le_trans (h4 t ht) (by decide), fun h => by rcases h1 with rfl | rfl <;> rcases h with h | h <;> cases h⟩
  have lcol : (colM w1 w2).txt.length ≤ 100 := by rw [col_txt]; omega
  have awc : asc (w1 ++ [46] ++ w2) := asc_cat (asc_cat aw1 (by decide)) aw2
  generalize ew : w1 ++ [46] ++ w2 = wc at *
  have ecol : (colM w1 w2).txt = wc := by rw [col_txt, ew]
  generalize colM w1 w2 = mc at *
  refine ⟨_, rfl, rfl, _, rfl, ?_⟩
  refine ite2 (fun c2 => ?_) (fun c2 => ?_)
  · refine ⟨_, rfl, fn_call (ts := [mc]) (w := [114]) P6 (congrArg V.str r_) rfl (one_row tx6') (shp1 (.inr rfl) (by decide) (by simp) (fun t ht => by rw [List.mem_singleton.mp ht]; exact lcol)) fun G7 H7 a s7 P7 t7 => ?_⟩
    refine ⟨_, rfl, _, _, rfl, rfl, by rw [rl_, S_len, S_len]; simp; omega, _, _, rfl, rfl, by rw [rl_, rb_, S_cat, S_len, S_len]; simp; omega, by show 2 ≤ sizeLine; decide, ?_⟩
    rw [rl_, rb_, S_cat, S_cat]
    exact fin (s6'.trans s7) P7 t7 (by simp [Mt.txt_mk, tx, TL.joinL, ecol]) (by simp; omega) (asc_cat (asc_cat (by decide) awc) (by decide))
  refine ⟨_, rfl, rfl, _, rfl, ?_⟩
  refine ite2 (fun c3 => ?_) (fun c3 => ?_)
  · refine ⟨_, rfl, _, rfl, fn_call (ts := [mc, mc]) (w := [113]) P6 (congrArg V.str q0_) rfl (two_row tx6' tx6') (shp1 (.inr rfl) (by decide) (by simp) (fun t ht => by
      have : t = mc := by simpa using ht
      rw [this]; exact lcol)) fun G7 H7 a s7 P7 t7 => ?_⟩
    refine ⟨_, rfl, _, _, rfl, rfl, by rw [ql_, S_len, S_len]; simp; omega, _, _, rfl, rfl, by rw [ql_, cs_, S_cat, S_len, S_len]; simp; omega, _, rfl, _, _, rfl, rfl, by rw [ql_, cs_, S_cat, S_cat, S_len, S_len]; simp; omega, _, _, rfl, rfl, by rw [ql_, cs_, rb_, S_cat, S_cat, S_cat, S_len, S_len]; simp; omega, by show 2 ≤ sizeLine; decide, ?_⟩
    rw [ql_, cs_, rb_, S_cat, S_cat, S_cat, S_cat]
    exact fin (s6'.trans s7) P7 t7 (by simp [Mt.txt_mk, tx, TL.joinL, ecol]) (by simp; omega) (asc_cat (asc_cat (asc_cat (asc_cat (by decide) awc) (by decide)) awc) (by decide))
  refine ⟨_, rfl, fn_call (ts := [mc]) (w := [102]) P6 (congrArg V.str f_) rfl (one_row tx6') (shp1 (.inl rfl) (by decide) (by simp) (fun t ht => by rw [List.mem_singleton.mp ht]; exact lcol)) fun G7 H7 a s7 P7 t7 => ?_⟩
  have lf : (Mt.mk .func [102] [mc] false).txt.length ≤ 100 := by
    simp [Mt.txt_mk, tx, TL.joinL, ecol]
    omega
  refine ⟨_, rfl, fn_call (ts := [Mt.mk .func [102] [mc] false, mc]) (w := [114]) P7 (congrArg V.str r_) rfl (two_row t7 (tx6'.same s7.gg)) (shp1 (.inr rfl) (by decide) (by simp) (fun t ht => by
      simp only [List.mem_cons, List.mem_nil_iff, or_false] at ht
      rcases ht with rfl | rfl
      · exact lf
      · exact lcol)) fun G8 H8 a8 s8 P8 t8 => ?_⟩
  refine ⟨_, rfl, _, _, rfl, rfl, by rw [rf_, S_len, S_len]; simp; omega, _, _, rfl, rfl, by rw [rf_, pc_, S_cat, S_len, S_len]; simp; omega, _, rfl, _, _, rfl, rfl, by rw [rf_, pc_, S_cat, S_cat, S_len, S_len]; simp; omega, _, _, rfl, rfl, by rw [rf_, pc_, rb_, S_cat, S_cat, S_cat, S_len, S_len]; simp; omega, by show 2 ≤ sizeLine; decide, ?_⟩
  rw [rf_, pc_, rb_, S_cat, S_cat, S_cat, S_cat]
  exact fin ((s6'.trans s7).trans s8) P8 t8 (by simp [Mt.txt_mk, tx, TL.joinL, ecol]) (by simp; omega) (asc_cat (asc_cat (asc_cat (asc_cat (by decide) awc) (by decide)) awc) (by decide))
end Pf
namespace Bs
open PySem PySem.Spec PyProof.Rows L2 SX
variable {P : Program} {w : World} {K : PySem.W.Frag} {mg : Str → Option Value} {base : Heap} {X : Cx}
/-- what the law draws: a term alone, or wants alone -/
def Dr (o : Option Mt) (ws : List (Nat × Mt)) : Prop := o = none ∨ ws = []
def spStateL (C : Addr) : Sp := fun vs H Q _ => ∃ (G : Hp) (p : Addr), vs = [.ref p] ∧ Pk G H p ∧
  ∀ (G' H' : Hp) (a la : Addr) (tv : V) (asks : List V) (o : Option Mt) (ws : List (Nat × Mt)), Step (some p) G H G' H' → Pk G' H' p → G' a = some (.tup [tv, .ref la, .str (S (stx o ws))]) → G' la = some (.lst asks) → WAts C G' asks ws → OAt C G' tv o → Sml o ws → Q (.ref a) H'
/-- a list of one's own changes -/
theorem Pk.local_ {G H : Hp} {p l : Addr} {o : HO} (h : Pk G H p) (hl : G l = none) (ne : l ≠ p) : Pk G (upd H l o) p := by
  obtain ⟨a, ns, r, sd, e, h1, h2, h3, h4⟩ := h.pen
  exact ⟨Same.off h.gh hl, h.out, a, ns, r, sd, by rw [upd_ne ne.symm]; exact e, h1, h2, h3, h4⟩
theorem lay_strs : ∀ xs : List (List Nat), (∀ x ∈ xs, asc x) → PyData.canLayAll0 ((xs.map S).map PyData.str) = true ∧ PyData.depthAll ((xs.map S).map PyData.str) ≤ 1
  | [], _ => ⟨by simp [PyData.canLayAll0], by simp [PyData.depthAll]⟩
  | x :: r, h => by
    obtain ⟨h1, h2⟩ := lay_strs r fun y hy => h y (List.mem_cons_of_mem _ hy)
    have hx := h x List.mem_cons_self
    have e : PyData.strOk (S x) = true := by
      unfold PyData.strOk
      rw [← Array.all_toList, List.all_eq_true]
      intro c hc
      have := hx c hc
      exact decide_eq_true (by omega)
    refine ⟨by rw [List.map_cons, List.map_cons, PyData.canLayAll0, PyData.canLay0, h1, e]; rfl, ?_⟩
    simp only [List.map_cons, PyData.depthAll, PyData.depth]
    omega
theorem shaped_strs {xs : List (List Nat)} (h : ∀ x ∈ xs, asc x) : SeqAt.shaped (.list ((xs.map S).map PyData.str)) = true := by
  obtain ⟨h1, h2⟩ := lay_strs xs h
  unfold SeqAt.shaped
  rw [PyData.canLay0, h1, PyData.depth, Bool.true_and, decide_eq_true_eq]
  omega
theorem dp_strs {H : Hp} : ∀ xs : List Str, DpAll K H (xs.map V.str) (xs.map PyData.str)
  | [] => .nil
  | x :: r => .cons (.str x) (dp_strs r)
theorem eqv_nil_s (xs : List Str) : (PyData.list (xs.map PyData.str)).eqv (.list []) = xs.isEmpty := by
  cases xs with
  | nil => simp [PyData.eqv, PyData.eqvAll]
  | cons n r => simp [PyData.eqv, PyData.eqvAll]
theorem asc_num (n : Nat) : asc (TL.numL n) := fun c hc => by
  have := TL.numL_digits n c hc
  omega
theorem asc_wtx {q : Nat × Mt} (h : asc q.2.txt) : asc (wtx q) := asc_cat (asc_cat (asc_num _) (by decide)) h
end Bs
namespace Pf
open PySem PySem.Spec PyProof.Rows L2 Bs SX
variable {P : Program} {w : World} {K : PySem.W.Frag} {mg : Str → Option Value} {base : Heap}
abbrev N_Lstate : List Str := ["_law_pen_here", "_law_asks", "_law_texts", "_law_anti", "_law_k", "_law_place", "_law_text"]
theorem sc_Lstate : FnScope N_Lstate ["_law_pen_here"] (defScope s_Lstate) := ⟨rfl, rfl, rfl, by decide +kernel, rfl, by decide +kernel, by decide +kernel⟩
theorem c_Lstate (T : Tx K mg) : C8.Cal P w K mg base 10 "_law_state" (spStateL (CT K)) [] := by
  obtain ⟨fd, F⟩ := f_Lstate T
  have c_Ldraw := c_Ldraw (P := P) (w := w) (base := base) T
  have c_Lterm := c_Lterm (P := P) (w := w) (base := base) T
  show C8.Cal P w K mg base (9 + 1) _ _ _
  refine mkCal F (g_law_state T) (F.bindsN fun _ _ _ _ _ _ us hl => match us, hl with | [_], _ => rfl) .nil sc_Lstate (fun vs H Q E h => ?_) (fun cdv A outer s H vs Q E hr h => ?_)
  · obtain ⟨G, p, rfl, _⟩ := h
    rfl
  obtain ⟨G, p, rfl, hP, q⟩ := h
  have hu := hu_of hr
  have sl : sizeLine = 16777216 := rfl
  refine ⟨_, (pss_cons (ps_if (pt_cmpR op_eq (C8.pe_c c_Ldraw hr (by first | decide | omega) rfl (pa_cons (pv 0) (pa_cons pe_int pa_nil))) pe_int (nomark _)) (pss_cons (ps_asg (C8.pe_c c_Lterm hr (by first | decide | omega) rfl (pa_cons (pv 0) pa_nil)) (pg_tup rfl (pgs_cons (pg_name (i := 5) sc_Lstate.nd rfl (Or.inl rfl)) (pgs_cons (pg_name (i := 6) sc_Lstate.nd rfl (Or.inl rfl)) pgs_nil))))
    (pss_one (ps_ret (pe_tup (pa_cons (pv 5) (pa_cons (pe_lst pa_nil) (pa_cons (pe_op op_add_str pe_str (pv 6)) pa_nil))))))) pss_nil)
    (pss_cons (ps_set (i := 1) sc_Lstate.nd rfl (Or.inl rfl) (pe_lst pa_nil))
    (pss_cons (ps_set (i := 2) sc_Lstate.nd rfl (Or.inl rfl) (pe_lst pa_nil))
    (pss_cons (ps_set (i := 3) sc_Lstate.nd rfl (Or.inl rfl) pe_int)
    (pss_cons (ps_for PassesOwn.never rfl (pi_range1 (by rfl) (z_range T) (pa_cons (C8.pe_c c_Ldraw hr (by first | decide | omega) rfl (pa_cons (pv 0) (pa_cons pe_int pa_nil))) pa_nil)) (pg_name (i := 4) sc_Lstate.nd rfl (Or.inl rfl)) (pss_cons (ps_set (i := 3) sc_Lstate.nd rfl (Or.inl rfl) (pe_op op_add (pe_op op_add (pv 3) pe_int) (C8.pe_c c_Ldraw hr (by first | decide | omega) rfl (pa_cons (pv 0) (pa_cons pe_int pa_nil)))))
    (pss_cons (ps_asg (C8.pe_c c_Lterm hr (by first | decide | omega) rfl (pa_cons (pv 0) pa_nil)) (pg_tup rfl (pgs_cons (pg_name (i := 5) sc_Lstate.nd rfl (Or.inl rfl)) (pgs_cons (pg_name (i := 6) sc_Lstate.nd rfl (Or.inl rfl)) pgs_nil))))
    (pss_cons (ps_expr (pe_bm PySem.F.plainAttrs_list PySem.F.slot_list_append PySem.F.type_list_append mt_append (pv 1) (pa_cons (pe_tup (pa_cons (pv 3) (pa_cons (pv 5) pa_nil))) pa_nil)))
    (pss_one (ps_expr (pe_bm PySem.F.plainAttrs_list PySem.F.slot_list_append PySem.F.type_list_append mt_append (pv 2) (pa_cons (pe_op op_add_str (pe_op op_add_str (pe_callTy call_str_int (by rfl) (z_str T) boot_str (pa_cons (pv 3) pa_nil)) pe_str) (pv 6)) pa_nil))))))))
    (pss_one (ps_ret (pe_tup (pa_cons pe_non (pa_cons (pv 1) (pa_cons (pe_op op_add_str (pe_op op_add_str pe_str (pe_op op_rep_str pe_str (pe_callTy call_int1 (by rfl) (z_int T) boot_int (pa_cons (pe_cmpR (op_neD hr.units) (pv 2) (pe_lst pa_nil) (nomark _)) pa_nil)))) (pe_join pe_str (pv 2))) pa_nil))))))))))), ?_⟩
  refine ⟨_, rfl, _, p, 3, rfl, hP, by decide, by decide, fun d1 G1 H1 s1 P1 a1 b1 => ?_⟩
  refine ⟨rfl, _, rfl, ?_⟩
  refine ite2 (fun c0 => ?_) (fun c0 => ?_)
  · refine ⟨_, rfl, G1, p, rfl, P1, fun G2 H2 a x m s2 P2 ha hx hl _ => ?_⟩
    refine ⟨a, _, rfl, SqT.of (P2.gh _ _ ha), rfl, _, _, rfl, _, _, rfl, rfl, ?_⟩
    refine ⟨_, rfl, Nat.zero_le _, fun l hl1 => ?_⟩
    obtain ⟨s3, P3⟩ := P2.new_ (o := .lst []) hl1
    refine ⟨_, rfl, _, _, rfl, rfl, by rw [at_, S_len, S_len]; simp; omega, by show 3 ≤ sizeLine; decide, fun b hb => ?_⟩
    rw [at_, S_cat]
    obtain ⟨s4, P4⟩ := P3.new_ (o := .tup [x, .ref l, .str (S ([97, 116, 32] ++ m.txt))]) hb
    exact q _ _ b l x [] (some m) [] (((s1.trans s2).trans s3).trans s4) P4 upd_same (s4.gg _ _ upd_same) ⟨rfl, fun i v q h => by cases h⟩ ((hx.same s3.gg).same s4.gg) ⟨by simp, fun m' e => by cases e; exact hl, fun q h => by cases h⟩
  refine ⟨Nat.zero_le _, fun la hla => ?_⟩
  refine ⟨Nat.zero_le _, fun lt hlt => ?_⟩
  have hla1 : H1 la = none := hla
  have ga : G1 la = none := P1.gh.free hla
  have nat_ : la ≠ lt := ne_of_none upd_same hlt
  have hlt1 : H1 lt = none := by rw [upd_ne nat_.symm] at hlt; exact hlt
  have gt_ : G1 lt = none := P1.gh.free hlt1
  have sA : Step none G1 H1 G1 (upd (upd H1 la (.lst [])) lt (.lst [])) := ((Step.refl P1.gh).loc hla ga).loc hlt1 gt_
  obtain ⟨sB, PB⟩ := P1.went sA
  have a0 : upd (upd H1 la (.lst [])) lt (.lst []) la = some (.lst []) := by rw [upd_ne nat_]; exact upd_same
  have t0 : upd (upd H1 la (.lst [])) lt (.lst []) lt = some (.lst []) := upd_same
  generalize upd (upd H1 la (.lst [])) lt (.lst []) = HB at *
  refine ⟨_, rfl, _, p, 4, rfl, PB, by decide, by decide, fun d G2 H2 s2 P2 a2 b2 => ⟨d, rfl, by omega, by omega, ?_⟩⟩
  have kp2 : ∀ b o, HB b = some o → b ≠ p → H2 b = some o := fun b o e n => s2.kp b o e (fun z => n (Option.some.inj z))
  have nlap : la ≠ p := fun z => P1.there (by rw [← z]; exact hla1)
  have nltp : lt ≠ p := fun z => P1.there (by rw [← z]; exact hlt1)
  refine for_range (lo := 0) (n := d.toNat) (fun i σ H' => ∃ (G' : Hp) (asks : List V) (ws : List (Nat × Mt)) (an : Nat) (k pl tx : Option V), σ = [some (.ref p), some (.ref la), some (.ref lt), some (.int (an : Nat)), k, pl, tx] ∧
      Step (some p) G1 H1 G' H' ∧ Pk G' H' p ∧ G' la = none ∧ G' lt = none ∧ H' la = some (.lst asks) ∧ H' lt = some (.lst (((ws.map wtx).map S).map V.str)) ∧ ws.length = i ∧ WAts (CT K) G' asks ws ∧ an ≤ 8 * i ∧ (∀ q ∈ ws, (q.1 < 1000 ∧ q.2.txt.length ≤ 100) ∧ asc q.2.txt))
    ⟨G2, [], [], 0, none, none, none, rfl, sB.trans s2, P2, s2.out ga (by rw [a0]; exact fun z => by cases z), s2.out gt_ (by rw [t0]; exact fun z => by cases z), kp2 _ _ a0 nlap, kp2 _ _ t0 nltp, rfl, ⟨rfl, fun i v q h => by cases h⟩, by omega, fun q h => by cases h⟩ ?_ ?_
  · rintro i σ H' hi ⟨G', asks, ws, an, k, pl, tx, rfl, sI, PI, gla, glt, hla', hlt', rfl, hw, han, hsm⟩
    refine ⟨_, rfl, _, _, rfl, rfl, _, rfl, _, p, 8, rfl, PI, by decide, by decide, fun d3 G3 H3 s3 P3 a3 b3 => ⟨_, _, rfl, rfl, ?_⟩⟩
    obtain ⟨an2, ea2⟩ : ∃ an2 : Nat, ((an : Nat) : Int) + 1 + d3 = ((an2 : Nat) : Int) := ⟨an + 1 + d3.toNat, by omega⟩
    dsimp only
    rw [ea2]
    refine ⟨_, rfl, G3, p, rfl, P3, fun G4 H4 a x m s4 P4 ha hx hl hasc => ⟨a, _, rfl, SqT.of (P4.gh _ _ ha), rfl, _, _, rfl, _, _, rfl, rfl, ?_⟩⟩
    have s34 := s3.trans s4
    have kp4 : ∀ b o, H' b = some o → b ≠ p → H4 b = some o := fun b o e n => s34.kp b o e (fun z => n (Option.some.inj z))
    have hla4 := kp4 _ _ hla' nlap
    have hlt4 := kp4 _ _ hlt' nltp
    have g4a : G4 la = none := s34.out gla (by rw [hla']; exact fun z => by cases z)
    have g4t : G4 lt = none := s34.out glt (by rw [hlt']; exact fun z => by cases z)
    have hwl := hw.1
    have sI4 := sI.trans s34
    refine ⟨_, rfl, .inl ⟨rfl, _, SqL.of hla4⟩, _, rfl, _, rfl, by show 2 ≤ sizeLine; decide, fun t ht => ⟨la, asks, _, rfl, rfl, ?_, by omega, ?_⟩⟩
    · rw [upd_ne (ne_of_none hla4 ht)]; exact hla4
    obtain ⟨s5, P5⟩ := P4.new_ (o := .tup [.int (an2 : Nat), x]) ht
    have g5a : upd G4 t (.tup [.int (an2 : Nat), x]) la = none := by rw [upd_ne (ne_of_none hla4 ht)]; exact g4a
    have g5t : upd G4 t (.tup [.int (an2 : Nat), x]) lt = none := by rw [upd_ne (ne_of_none hlt4 ht)]; exact g4t
    have hlt5 : upd H4 t (.tup [.int (an2 : Nat), x]) lt = some (.lst (((ws.map wtx).map S).map V.str)) := by rw [upd_ne (ne_of_none hlt4 ht)]; exact hlt4
    have hla5 : upd H4 t (.tup [.int (an2 : Nat), x]) la = some (.lst asks) := by rw [upd_ne (ne_of_none hla4 ht)]; exact hla4
    have nt : upd G4 t (.tup [.int (an2 : Nat), x]) t = some (.tup [.int (an2 : Nat), x]) := upd_same
    have sI5 := sI4.trans s5
    have gg5 := (s34.trans s5).gg
    have hx5 := hx.same s5.gg
    generalize upd G4 t (.tup [.int (an2 : Nat), x]) = G5 at *
    generalize upd H4 t (.tup [.int (an2 : Nat), x]) = H5 at *
    have s6 := sI5.loc (o := .lst (asks ++ [.ref t])) hla1 g5a
    have P6 := P5.local_ (o := .lst (asks ++ [.ref t])) g5a nlap
    have hlt6 : upd H5 la (.lst (asks ++ [.ref t])) lt = some (.lst (((ws.map wtx).map S).map V.str)) := by rw [upd_ne nat_.symm]; exact hlt5
    have hla6 : upd H5 la (.lst (asks ++ [.ref t])) la = some (.lst (asks ++ [.ref t])) := upd_same
    generalize upd H5 la (.lst (asks ++ [.ref t])) = H6 at *
    have e0 : ((an2 : Nat) : Int).natAbs.log2 < 1920 := by rw [Int.natAbs_natCast]; exact Nat.lt_of_le_of_lt (Nat.log2_le_self _) (by omega)
    have en : Str.ofString (toString ((an2 : Nat) : Int)) = S (TL.numL an2) := num_S an2
    have ln : (TL.numL an2).length ≤ 3 := TL.numL_len (by decide) (by omega)
    refine ⟨_, rfl, .inl ⟨rfl, _, SqL.of hlt6⟩, _, rfl, _, rfl, e0, _, _, rfl, rfl, by rw [en, sp_, S_len, S_len]; simp; omega, _, rfl, _, _, rfl, rfl, by rw [en, sp_, S_cat, S_len, S_len]; simp; omega, ?_⟩
    rw [en, sp_, S_cat, S_cat]
    refine ⟨lt, _, _, rfl, rfl, hlt6, by simp only [List.length_map]; omega, ?_⟩
    refine ⟨G5, asks ++ [.ref t], ws ++ [(an2, m)], an2, _, _, _, rfl, s6.loc hlt1 g5t, P6.local_ g5t nltp, g5a, g5t, by rw [upd_ne nat_]; exact hla6, ?_, by rw [List.length_append]; rfl, ⟨by rw [List.length_append, List.length_append, hw.1]; rfl, fun i v q h1 h2 => ?_⟩, by omega, fun q hq => ?_⟩
    · rw [upd_same, List.map_append, List.map_append, List.map_append]
      rfl
    · by_cases c : i < ws.length
      · rw [List.getElem?_append_left c] at h2
        rw [List.getElem?_append_left (by omega)] at h1
        exact (hw.2 i v q h1 h2).same gg5
      · have hi2 : i = ws.length := by
          have := (List.getElem?_eq_some_iff.mp h2).1
          rw [List.length_append, List.length_singleton] at this
          omega
        subst hi2
        rw [List.getElem?_append_right (Nat.le_refl _), Nat.sub_self] at h2
        rw [← hwl, List.getElem?_append_right (Nat.le_refl _), Nat.sub_self] at h1
        cases h1
        cases h2
        exact ⟨t, x, rfl, nt, hx5⟩
    · rcases List.mem_append.mp hq with h | h
      · exact hsm q h
      · rw [List.mem_singleton.mp h]
        exact ⟨⟨by show an2 < 1000; omega, hl⟩, hasc⟩
  · rintro σ H' ⟨G', asks, ws, an, k, pl, tx, rfl, sI, PI, gla, glt, hla', hlt', hn, hw, han, hsm⟩
    have hm : ws.length ≤ 3 := by omega
    have hax : ∀ x ∈ ws.map wtx, asc x := fun x hx => by
      obtain ⟨q0, hq0, rfl⟩ := List.mem_map.mp hx
      exact asc_wtx (hsm q0 hq0).2
    refine ⟨_, rfl, _, rfl, Nat.zero_le _, fun l0 hl0 => ?_⟩
    have s1' := sI.loc (o := .lst []) (sI.free hl0) (sI.gh.free hl0)
    obtain ⟨s2', P2'⟩ := PI.went ((Step.refl PI.gh).loc (o := .lst []) hl0 (PI.gh.free hl0))
    have n0a : la ≠ l0 := ne_of_none hla' hl0
    have n0t : lt ≠ l0 := ne_of_none hlt' hl0
    have hlaZ : upd H' l0 (.lst []) la = some (.lst asks) := by rw [upd_ne n0a]; exact hla'
    have hltZ : upd H' l0 (.lst []) lt = some (.lst (((ws.map wtx).map S).map V.str)) := by rw [upd_ne n0t]; exact hlt'
    refine ⟨_, _, .lst (SqL.of hltZ) (dp_strs _), .lst (SqL.of upd_same) .nil, shaped_strs hax, shaped_ints [], ?_⟩
    rw [eqv_nil_s]
    have lj := joinL_len [44, 32] (ws.map wtx)
    have b1 := sum_le (n := 104) (xs := ws.map wtx) (fun y hy => by
      obtain ⟨q0, hq0, rfl⟩ := List.mem_map.mp hy
      obtain ⟨⟨b1, b2⟩, _⟩ := hsm q0 hq0
      have ln : (TL.numL q0.1).length ≤ 3 := TL.numL_len (by decide) (by omega)
      unfold wtx
      simp only [List.length_append, List.length_singleton]
      omega)
    have e2 : (ws.map wtx).length * ([44, 32] : List Nat).length = ws.length * 2 := by rw [List.length_map]; rfl
    rw [List.length_map] at b1
    rw [e2] at lj
    have bj : (((ws.map wtx).map S).map (fun x => x.length)).sum + ((ws.map wtx).map S).length * ((", " : Str)).length ≤ 16777216 := by
      rw [lenS, List.length_map, List.length_map, cs_, S_len]
      show _ + ws.length * 2 ≤ _
      omega
    have sml : Sml none ws := ⟨hm, fun m e => (by cases e), fun q hq => (hsm q hq).1⟩
    have fin : ∀ (b : Addr), upd H' l0 (.lst []) b = none → Q (.ref b) (upd (upd H' l0 (.lst [])) b (.tup [.non, .ref la, .str (S (stx none ws))])) := fun b hb => by
      have sF := s1'.freeze (q := la) hla1 hlaZ gla
      have PF : Pk (upd G' la (.lst asks)) (upd H' l0 (.lst [])) p := by
        obtain ⟨a, ns, r, sd, e, h1, h2, h3, h4⟩ := P2'.pen
        exact ⟨sF.gh, by rw [upd_ne nlap.symm]; exact P2'.out, a, ns, r, sd, e, by rw [upd_ne (fun z => by rw [z, gla] at h1; cases h1)]; exact h1, h2, h3, h4⟩
      obtain ⟨s4, P4⟩ := PF.new_ (o := .tup [.non, .ref la, .str (S (stx none ws))]) hb
      have gg : Same G' (upd G' la (.lst asks)) := Same.new (Same.refl _) gla
      exact q _ _ b la .non asks none ws ((s1.trans sF).trans s4) P4 upd_same (s4.gg _ _ upd_same) ((hw.same gg).same s4.gg) rfl sml
    cases ws with
    | nil =>
      refine .inr ⟨_, rfl, ", wants ", 0, rfl, rfl, by decide, by decide, by decide +kernel, ?_⟩
      have e0 : (⟨(List.replicate (0 : Int).toNat (", wants " : Str).cps.toList).flatten.toArray⟩ : Str) = S [] := rfl
      rw [e0]
      refine ⟨_, _, rfl, rfl, by rw [evw_, S_len, S_len]; show 10 + 0 ≤ sizeLine; omega, ⟨_, rfl⟩, _, rfl, ", ", lt, _, rfl, rfl, .inl (SqL.of hltZ), bj, _, _, rfl, rfl, ?_, by show 3 ≤ sizeLine; decide, ?_⟩
      · rw [cs_, join_S, evw_, S_cat, S_len, S_len]
        show (10 + 0) + 0 ≤ sizeLine
        omega
      rw [cs_, join_S, evw_, S_cat, S_cat]
      exact fin
    | cons w0 wr =>
      refine .inr ⟨_, rfl, ", wants ", 1, rfl, rfl, by decide, by decide, by decide +kernel, ?_⟩
      have e0 : (⟨(List.replicate (1 : Int).toNat (", wants " : Str).cps.toList).flatten.toArray⟩ : Str) = S wnt := by decide +kernel
      rw [e0]
      refine ⟨_, _, rfl, rfl, by rw [evw_, S_len, S_len]; show 10 + 8 ≤ sizeLine; omega, ⟨_, rfl⟩, _, rfl, ", ", lt, _, rfl, rfl, .inl (SqL.of hltZ), bj, _, _, rfl, rfl, ?_, by show 3 ≤ sizeLine; decide, ?_⟩
      · rw [cs_, join_S, evw_, S_cat, S_len, S_len, List.length_append]
        show (10 + 8) + _ ≤ sizeLine
        omega
      rw [cs_, join_S, evw_, S_cat, S_cat]
      exact fin
end Pf
namespace Bs
open PySem PySem.Spec PyProof.Rows L2 SX
variable {P : Program} {w : World} {K : PySem.W.Frag} {mg : Str → Option Value} {base : Heap} {X : Cx}
def spRight (CS C : Addr) : Sp := fun vs H Q _ => ∃ (G : Hp) (a la : Addr) (tv : V) (xs : List V) (o : Option Mt) (ws : List (Nat × Mt)), vs = [.ref a, tv, .ref la, .str (S (stx o ws))] ∧ Same G H ∧ SAt CS C G a o ws ∧ Wn CS G a xs ∧ G la = some (.lst xs) ∧ OAt C G tv o ∧
  ∀ H' : Hp, Step none G H G H' → Q (.bl true) H'
end Bs
namespace Pf
open PySem PySem.Spec PyProof.Rows L2 Bs SX
variable {P : Program} {w : World} {K : PySem.W.Frag} {mg : Str → Option Value} {base : Heap}
abbrev N_Lright : List Str := ["_law_made", "_law_place", "_law_asks", "_law_text"]
theorem sc_Lright : FnScope N_Lright ["_law_made", "_law_place", "_law_asks", "_law_text"] (defScope s_Lright) := ⟨rfl, rfl, rfl, by decide +kernel, rfl, by decide +kernel, by decide +kernel⟩
theorem c_Lright (T : Tx K mg) : C8.Cal P w K mg base 5 "_law_right" (spRight (CS K) (CT K)) [] := by
  obtain ⟨fd, F⟩ := f_Lright T
  have pe_g_tuple : ∀ {X : Cx} {pos : Pos}, X.mg = mg → Gl X "tuple" → PE X (.Name "tuple" pos) (tC (.ty "tuple")) := fun h1 h2 => pe_bltn h2 (by rw [h1]; exact z_tuple T) boot_tuple rfl
  show C8.Cal P w K mg base (4 + 1) _ _ _
  refine mkCal F (g_law_right T) (F.bindsN fun _ _ _ _ _ _ us hl => match us, hl with | [_, _, _, _], _ => rfl) .nil sc_Lright (fun vs H Q E h => ?_) (fun cdv A outer s H vs Q E hr h => ?_)
  · obtain ⟨G, a, la, tv, xs, o, ws, rfl, _⟩ := h
    rfl
  obtain ⟨G, a, la, tv, xs, o, ws, rfl, hG, hA, hW, hla, ho, q⟩ := h
  have hu := hu_of hr
  have sl : sizeLine = 16777216 := rfl
  have C0 := cls_State_ T
  refine ⟨_, (pss_cons (ps_if (PW.pt (pw_or (pt_not (pt_val (pe_callB (call_isiK' (K := K) rfl) (by rfl) (z_isinstance T) boot_isinstance (pa_cons (pe_fldK (K := K) rfl (pv 0) (by rfl)) (pa_cons (pe_g_tuple rfl rfl) pa_nil))))) (pw_or (pt_cmpR (op_neTs (K := K) rfl hr.units) (pe_callTy call_list_of (by rfl) (z_list T) boot_list (pa_cons (pe_fldK (K := K) rfl (pv 0) (by rfl)) pa_nil)) (pv 2) (nomark _)) (pw_or1 (pt_cmpR op_ne (pe_callTy (call_strO (own_str_State T rfl rfl rfl rfl rfl) (hr.mono (by omega))) (by rfl) (z_str T) boot_str (pa_cons (pv 0) pa_nil)) (pv 3) (nomark _)))))) (pss_one (ps_ret pe_bl)) pss_nil)
    (pss_cons (ps_if (pt_cmpR op_isN (pv 1) pe_non (nomark _)) (pss_one (ps_ret (pe_cmpR op_isN (pe_fldK (K := K) rfl (pv 0) (by rfl)) pe_non (nomark _)))) pss_nil)
    (pss_one (ps_ret (pe_cmpR (op_eqO (own_eq T rfl rfl rfl rfl rfl) (hr.mono (by omega))) (pe_fldK (K := K) rfl (pv 0) (by rfl)) (pv 1) (nomark _)))))), ?_⟩
  obtain ⟨dx, wa, tv1, vs, e1, e2, e3, e4⟩ := hA.ex
  obtain ⟨dx', wa', tv', vs', t', f1, f2, f3⟩ := hW
  rw [e1] at f1
  have ef : sf tv1 wa (stx o ws) = sf tv' wa' t' := by
    injection f1 with f1
    injection f1
  have ew : wa = wa' := by
    have z1 := sf_wants (tv := tv1) (wa := wa) (t := stx o ws)
    rw [ef, sf_wants] at z1
    injection z1 with z1
    injection z1 with z1
    exact z1.symm
  subst ew
  rw [e2] at f2
  have ev : vs = vs' := by
    injection f2 with f2
    injection f2
  subst ev
  refine ⟨_, rfl, a, CS K, dx, _, _, rfl, hG _ _ e1, C0, noat_State_wants T, sf_wants, ?_⟩
  refine ⟨_, .ty "tuple", .type "tuple", .type "tuple", true, rfl, .ty _, .base (.tup (hG _ _ e2)), of_decide_eq_true (ex_7 T), _, rfl, iteF ?_⟩
  refine ⟨_, rfl, a, CS K, dx, _, _, rfl, hG _ _ e1, C0, noat_State_wants T, sf_wants, wa, vs, rfl, .inr (SqT.of (hG _ _ e2)), fun l hl => ?_⟩
  have s1 : Step none G H G (upd H l (.lst vs)) := (Step.refl hG).loc hl (hG.free hl)
  refine ⟨_, rfl, l, la, vs, xs, rfl, rfl, SqL.of upd_same, SqL.of (s1.gh _ _ hla), f3.1, fun i v x h1 h2 => ?_, _, rfl, iteF ?_⟩
  · obtain ⟨t, b, n, r, z1, z2, z3, z4⟩ := f3.2 i v x h1 h2
    exact ⟨t, b, n, r, z1, z2, SqT.of (s1.gh _ _ z3), SqT.of (s1.gh _ _ z4)⟩
  generalize upd H l (.lst vs) = H1 at *
  have hG1 := s1.gh
  refine ⟨_, rfl, a, dx, _, S (stx o ws), rfl, hG1 _ _ e1, ⟨G, o, ws, hG1, hA, rfl⟩, _, rfl, rfl, _, rfl, ?_⟩
  refine ite2 (fun c => absurd c (by simp)) (fun _ => ?_)
  cases o with
  | none =>
    have ho' : tv = .non := ho
    have h4' : tv1 = .non := e4
    subst ho' h4'
    refine ⟨_, rfl, rfl, _, rfl, ?_⟩
    refine iteT ?_
    refine ⟨_, rfl, a, CS K, dx, _, _, rfl, hG1 _ _ e1, C0, noat_State_term T, sf_term, rfl, ?_⟩
    exact q H1 s1
  | some m =>
    have ho' : TAt (CT K) G tv m := ho
    have h4' : TAt (CT K) G tv1 m := e4
    have hoo := ho'
    have h44 := h4'
    obtain ⟨b1, dx1, l1, so1, w1, ts1, bb1, g1, g2, g3⟩ := TAt.obj ho'
    obtain ⟨b2, dx2, l2, so2, w2, ts2, bb2, k1, k2, k3⟩ := TAt.obj h4'
    subst g1 k1
    have I0 := Hd.insB_ok (ex_0 T)
    refine ⟨_, rfl, rfl, _, rfl, ?_⟩
    refine ite2 (fun c => absurd c (by simp)) (fun _ => ?_)
    refine ⟨_, rfl, a, CS K, dx, _, _, rfl, hG1 _ _ e1, C0, noat_State_term T, sf_term, _, rfl, b2, dx2, _, .ref (CT K), true, rfl, hG1 _ _ k3, .base (.ins (hG1 _ _ g3) (cls_Term_ T) I0.ha I0.hn I0.htk I0.hm), I0.nf, ⟨G, m, hG1, h44, .inl ⟨m, hoo, (decide_eq_true rfl).symm⟩⟩, ?_⟩
    exact q H1 s1
end Pf
namespace Bs
open PySem PySem.Spec PyProof.Rows L2 SX
variable {P : Program} {w : World} {K : PySem.W.Frag} {mg : Str → Option Value} {base : Heap} {X : Cx} {n : Nat} {C : Addr}
def spLaw (K : PySem.W.Frag) : Sp := fun vs H Q _ => ∃ (a : Addr) (ns : List Int), vs = [.ref a] ∧ Fz K H a (ns.map V.int) ∧ ns.length ≤ 63 ∧ ∀ H' : Hp, Q (.bl true) H'
theorem op_eqOK {D : Addr → V → Bool → Hp → Prop} (hK : X.K = K) (O : OwnE X n C D) (hr : Room n X.A) : OpR X (compareOp .Eq) (rEqO K C D id) := by subst hK; exact op_eqO O hr
def ToldAt (CS C : Addr) (G : Hp) (v : V) (m : Option Mt × List (Nat × Mt)) : Prop := ∃ t a, v = .ref t ∧ G t = some (.tup [.ref a, .str (S (stx m.1 m.2))]) ∧ SAt CS C G a m.1 m.2
theorem ToldAt.same {CS C : Addr} {G G' : Hp} {v : V} {m : Option Mt × List (Nat × Mt)} (h : ToldAt CS C G v m) (s : Same G G') : ToldAt CS C G' v m := by
  obtain ⟨t, a, e, h1, h2⟩ := h
  exact ⟨t, a, e, s _ _ h1, h2.same s⟩
end Bs
namespace Pf
open PySem PySem.Spec PyProof.Rows L2 Bs SX
variable {P : Program} {w : World} {K : PySem.W.Frag} {mg : Str → Option Value} {base : Heap}
abbrev N_law : List Str := ["_law_script", "_law_pen_here", "_law_told", "_law_k", "_law_handed", "_law_made", "_law_text", "_law_place", "_law_asks", "_law_mate", "_law_other"]
theorem sc_law : FnScope N_law ["_law_script"] (defScope s_law) := ⟨rfl, rfl, rfl, by decide +kernel, rfl, by decide +kernel, by decide +kernel⟩
theorem o_law (T : Tx K mg) {fd : FuncData} (F : FunD K d_law.2.name d_law.2.qual d_law.2.params d_law.2.body d_law.2.scope (d_law.2.dvs K) (d_law.2.kws K) (d_law.1 K) fd) : FnOk P w K mg base C8.CX0 16 (d_law.1 K) fd ["_law_script"] (spLaw K) := by
  have c_Lpen := c_Lpen (P := P) (w := w) (base := base) T
  have c_Lstate := c_Lstate (P := P) (w := w) (base := base) T
  have c_Lright := c_Lright (P := P) (w := w) (base := base) T
  have c_zero_term := c_zero_term (P := P) (w := w) (base := base) T
  have kk_State := kk_State (P := P) (w := w) (base := base) T
  have m_State0 := m_State0 (P := P) (w := w) (base := base) T
  refine ok0 (k := 15) F sc_law (fun vs H Q E h => ?_) (fun cdv A outer s H vs Q E hr h => ?_)
  · obtain ⟨a, ns, rfl, _⟩ := h
    rfl
  obtain ⟨a, ns, rfl, hS, h63, q⟩ := h
  have sl : sizeLine = 16777216 := rfl
  refine ⟨_, (pss_cons (ps_set (i := 1) sc_law.nd rfl (Or.inl rfl) (C8.pe_c c_Lpen hr (by first | decide | omega) rfl (pa_cons (pv 0) pa_nil)))
    (pss_cons (ps_set (i := 2) sc_law.nd rfl (Or.inl rfl) (pe_lst pa_nil))
    (pss_cons (ps_for PassesOwn.never rfl (pi_range1 (by rfl) (z_range T) (pa_cons (pe_op op_add pe_int (pe_callB (call_min2 rfl) (by rfl) (z_min T) boot_min (pa_cons pe_int (pa_cons (pe_callB (call_len_seqK (K := K) rfl) (by rfl) (z_len T) boot_len (pa_cons (pv 0) pa_nil)) pa_nil)))) pa_nil)) (pg_name (i := 3) sc_law.nd rfl (Or.inl rfl)) (pss_cons (ps_asg (C8.pe_c c_Lstate hr (by first | decide | omega) rfl (pa_cons (pv 1) pa_nil)) (pg_tup rfl (pgs_cons (pg_name (i := 7) sc_law.nd rfl (Or.inl rfl)) (pgs_cons (pg_name (i := 8) sc_law.nd rfl (Or.inl rfl)) (pgs_cons (pg_name (i := 6) sc_law.nd rfl (Or.inr rfl)) pgs_nil)))))
    (pss_cons (ps_set (i := 4) sc_law.nd rfl (Or.inl rfl) (pe_callTy call_list_of (by rfl) (z_list T) boot_list (pa_cons (pv 8) pa_nil)))
    (pss_cons (ps_set (i := 5) sc_law.nd rfl (Or.inr rfl) (pe_mkk kk_State hr (by first | decide | omega) rfl (pk_cons (pv 7) (pk_cons (pv 4) pk_nil))))
    (pss_cons (ps_expr (pe_bm PySem.F.plainAttrs_list PySem.F.slot_list_append PySem.F.type_list_append mt_append (pv 4) (pa_cons (pe_tup (pa_cons pe_int (pa_cons (pe_c0 c_zero_term hr (by first | decide | omega) rfl) pa_nil))) pa_nil)))
    (pss_cons (ps_if (PW.pt (pw_or (pt_not (pt_val (C8.pe_c c_Lright hr (by first | decide | omega) rfl (pa_cons (pv 5) (pa_cons (pv 7) (pa_cons (pv 8) (pa_cons (pv 6) pa_nil))))))) (pw_or1 (pt_cmpR (op_eqO (own_eq_State T rfl rfl rfl rfl rfl) (hr.mono (by omega))) (pv 5) (pv 6) (nomark _))))) (pss_one (ps_ret pe_bl)) pss_nil)
    (pss_one (ps_expr (pe_bm PySem.F.plainAttrs_list PySem.F.slot_list_append PySem.F.type_list_append mt_append (pv 2) (pa_cons (pe_tup (pa_cons (pv 5) (pa_cons (pv 6) pa_nil))) pa_nil))))))))))
    (pss_cons (ps_if (PW.pt (pw_or (pt_cmpR op_ne (pe_callTy (call_strO (own_str_State T rfl rfl rfl rfl rfl) (hr.mono (by omega))) (by rfl) (z_str T) boot_str (pa_cons (pe_mk0 m_State0 hr (by first | decide | omega) rfl) pa_nil)) pe_str (nomark _)) (pw_or (pt_cmpR op_notN (pe_fldK (K := K) rfl (pe_mk0 m_State0 hr (by first | decide | omega) rfl) (by rfl)) pe_non (nomark _)) (pw_or1 (pt_cmpR (op_neD hr.units) (pe_fldK (K := K) rfl (pe_mk0 m_State0 hr (by first | decide | omega) rfl) (by rfl)) (pe_tup pa_nil) (nomark _)))))) (pss_one (ps_ret pe_bl)) pss_nil)
    (pss_cons (ps_for PassesOwn.never rfl (pi_listK (K := K) rfl (pv 2)) (pg_tup rfl (pgs_cons (pg_name (i := 5) sc_law.nd rfl (Or.inr rfl)) (pgs_cons (pg_name (i := 6) sc_law.nd rfl (Or.inr rfl)) pgs_nil))) (pss_one (ps_if (pt_cmpR (op_neD hr.units) (pe_lc (own := [("_law_mate", 9), ("_law_other", 10)]) rfl sc_law.nd (pi_listK (K := K) rfl (pv 2)) (blkOk_by (N := N_law) (sc := defScope s_law) (by decide +kernel)) (fun _ _ _ _ _ => (pg_tupK (K := K) (n := 2) rfl rfl (pgs_cons (pg_name (i := 9) sc_law.nd rfl (Or.inl rfl)) (pgs_cons (pg_name (i := 10) sc_law.nd rfl (Or.inl rfl)) pgs_nil)))) (fun _ _ _ _ _ => pts_one (pt_cmpR op_ne (pe_cmpR (op_eqOK (K := K) rfl (own_eq_State T rfl rfl rfl rfl rfl) (hr.mono (by omega))) (pv 5) (pv 9) (nomark _)) (pe_cmpR op_eq (pv 6) (pv 10) (nomark _)) (nomark _))) (fun _ _ _ _ _ => pe_int)) (pe_lst pa_nil) (nomark _)) (pss_one (ps_ret pe_bl)) pss_nil)))
    (pss_one (ps_ret pe_bl))))))), ?_⟩
  refine ⟨_, rfl, a, ns, rfl, hS.sq, fun p G1 H1 k1 _ P1 => ?_⟩
  refine ⟨Nat.zero_le _, fun lt hlt => ?_⟩
  have glt : G1 lt = none := P1.gh.free hlt
  have nltp : lt ≠ p := fun z => P1.there (by rw [← z]; exact hlt)
  obtain ⟨sB, PB⟩ := P1.went ((Step.refl P1.gh).loc (o := .lst []) hlt glt)
  have t0 : upd H1 lt (.lst []) lt = some (.lst []) := upd_same
  have hS2 : SqL K (upd H1 lt (.lst [])) a (ns.map V.int) := (hS.to (fun o u e => (Same.new k1 hlt) _ _ e)).sq
  have sB1 : Step (some p) G1 H1 G1 (upd H1 lt (.lst [])) := (Step.refl P1.gh).loc hlt glt
  generalize upd H1 lt (.lst []) = HB at *
  refine ⟨_, rfl, a, _, rfl, .inl hS2, _, _, rfl, _, _, rfl, rfl, _, rfl, by split <;> omega, by split <;> omega, ?_⟩
  have I4 := Hd.insB_ok (ex_4 T)
  have kS := Hd.kitsB_ok (ex_5 T) (t := "str") (by simp)
  refine for_range (lo := 0) (n := _) (fun i σ H' => ∃ (G' : Hp) (ts : List V) (ms : List (Option Mt × List (Nat × Mt))) (s3 s4 s5 s6 s7 s8 s9 s10 : Option V), σ = [some (.ref a), some (.ref p), some (.ref lt), s3, s4, s5, s6, s7, s8, s9, s10] ∧
      Step (some p) G1 H1 G' H' ∧ Pk G' H' p ∧ G' lt = none ∧ H' lt = some (.lst ts) ∧ ts.length = i ∧ ms.length = i ∧ (∀ (j : Nat) (v : V) (m : Option Mt × List (Nat × Mt)), ts[j]? = some v → ms[j]? = some m → ToldAt (CS K) (CT K) G' v m))
    ⟨G1, [], [], none, none, none, none, none, none, none, none, rfl, sB1, PB, glt, t0, rfl, rfl, fun j v m h => by cases h⟩ ?_ ?_
  · rintro i σ H' hi ⟨G', ts, ms, s3, s4, s5, s6, s7, s8, s9, s10, rfl, sI, PI, g', hL, rfl, hms, hall⟩
    have hi13 : ts.length < 13 := by
      have : ts.length < (1 + if (((ns.map V.int).length : Nat) : Int) < 12 then (((ns.map V.int).length : Nat) : Int) else 12).toNat := hi
      split at this <;> omega
    refine ⟨_, rfl, G', p, rfl, PI, fun G2 H2 t la tv asks o ws st2 P2 ht hla hw ho sm => ⟨t, _, rfl, SqT.of (P2.gh _ _ ht), rfl, _, _, rfl, _, _, rfl, _, _, rfl, rfl, ?_⟩⟩
    refine ⟨_, rfl, la, asks, rfl, .inl (SqL.of (P2.gh _ _ hla)), fun lh hlh => ?_⟩
    have g2h : G2 lh = none := P2.gh.free hlh
    have lhp : lh ≠ p := fun z => P2.there (by rw [← z]; exact hlh)
    have h'h : H' lh = none := st2.free hlh
    have st3 := st2.loc (o := .lst asks) h'h g2h
    obtain ⟨_, P3⟩ := P2.went ((Step.refl P2.gh).loc (o := .lst asks) hlh g2h)
    have lh3 : upd H2 lh (.lst asks) lh = some (.lst asks) := upd_same
    generalize upd H2 lh (.lst asks) = H3 at *
    refine ⟨_, rfl, _, rfl, rfl, rfl, ?_⟩
    show ∀ x dx, _ → _ → _ → spSInit (CS K) (CT K) (SqL K) [.ref x, tv, .ref lh] _ _ _
    refine make_state (CS := CS K) (Sq := SqL K) (wa := lh) (xs := asks) P3.gh (fun x Ha Hb hx s k => sqL_from (SqL.of lh3) hx s k) hw ho sm (fun G4 H4 x st4 hA hWn hx => ⟨rfl, ?_⟩)
    have P4 := P3.step st4
    have lh4 := st4.same _ _ lh3
    have g4h : G4 lh = none := st4.out g2h (by rw [lh3]; exact fun z => by cases z)
    refine ⟨_, rfl, .inl ⟨rfl, _, SqL.of lh4⟩, G4, rfl, st4.gh, fun G5 H5 z st5 tz hz => ⟨by show 2 ≤ sizeLine; decide, fun tt htt => ?_⟩⟩
    have P5 := P4.step st5
    have lh5 := st5.same _ _ lh4
    have g5h : G5 lh = none := st5.out g4h (by rw [lh4]; exact fun z => by cases z)
    obtain ⟨_, P6⟩ := P5.new_ (o := .tup [.int 25, .ref z]) htt
    have st6 := ((st3.trans st4.some_).trans st5.some_).new_ (o := .tup [.int 25, .ref z]) htt
    have nht : lh ≠ tt := ne_of_none lh5 htt
    have lh6 : upd H5 tt (.tup [.int 25, .ref z]) lh = some (.lst asks) := by rw [upd_ne nht]; exact lh5
    have g6h : upd G5 tt (.tup [.int 25, .ref z]) lh = none := by rw [upd_ne nht]; exact g5h
    have gg6 : Same G4 (upd G5 tt (.tup [.int 25, .ref z])) := st5.gg.trans (Same.new (Same.refl _) (P5.gh.free htt))
    have gg2 : Same G2 (upd G5 tt (.tup [.int 25, .ref z])) := st4.gg.trans gg6
    generalize upd G5 tt (.tup [.int 25, .ref z]) = G6 at *
    generalize upd H5 tt (.tup [.int 25, .ref z]) = H6 at *
    have hwl := hw.1
    have hm3 := sm.many
    refine ⟨lh, asks, _, rfl, rfl, lh6, by omega, ?_⟩
    have st7 := st6.loc (o := .lst (asks ++ [.ref tt])) h'h g6h
    have P7 := P6.local_ (o := .lst (asks ++ [.ref tt])) g6h lhp
    generalize upd H6 lh (.lst (asks ++ [.ref tt])) = H7 at *
    have hA6 := hA.same gg6
    refine ⟨_, rfl, _, rfl, _, rfl, _, rfl, G6, x, la, tv, asks, o, ws, rfl, P7.gh, hA6, hWn.same gg6, gg2 _ _ hla, ho.same gg2, fun H8 st8 => ?_⟩
    have P8 := P7.step st8
    obtain ⟨dx, wa, tv1, vs1, e1, _⟩ := hA6.ex
    refine ⟨_, rfl, iteF ?_⟩
    refine ⟨_, rfl, _, rfl, x, dx, _, .type "str", false, rfl, P8.gh _ _ e1, .base (.str _), kS.2, ⟨G6, o, ws, P8.gh, hA6, .inr ⟨rfl, "str", by simp, .base (.str _)⟩⟩, _, rfl, iteF ?_⟩
    have st9 := st7.trans st8.some_
    have hL9 := st9.kpc _ _ hL nltp
    have g9 : G6 lt = none := st9.out g' (by rw [hL]; exact fun z => by cases z)
    refine ⟨_, rfl, .inl ⟨rfl, _, SqL.of hL9⟩, _, rfl, _, rfl, by show 2 ≤ sizeLine; decide, fun tu htu => ?_⟩
    have nlu : lt ≠ tu := ne_of_none hL9 htu
    obtain ⟨_, P10⟩ := P8.new_ (o := .tup [.ref x, .str (S (stx o ws))]) htu
    have st10 := (sI.trans st9).new_ (o := .tup [.ref x, .str (S (stx o ws))]) htu
    have g10 : upd G6 tu (.tup [.ref x, .str (S (stx o ws))]) lt = none := by rw [upd_ne nlu]; exact g9
    have gg10 : Same G6 (upd G6 tu (.tup [.ref x, .str (S (stx o ws))])) := Same.new (Same.refl _) (P8.gh.free htu)
    refine ⟨lt, ts, _, rfl, rfl, by rw [upd_ne nlu]; exact hL9, by omega, ?_⟩
    refine ⟨upd G6 tu (.tup [.ref x, .str (S (stx o ws))]), ts ++ [.ref tu], ms ++ [(o, ws)], _, _, _, _, _, _, _, _, rfl, st10.loc hlt g10, P10.local_ g10 nltp, g10, upd_same, by rw [List.length_append]; rfl, by rw [List.length_append, hms]; rfl, fun j v m h1 h2 => ?_⟩
    by_cases c : j < ts.length
    · rw [List.getElem?_append_left c] at h1
      rw [List.getElem?_append_left (by omega)] at h2
      exact ((hall j v m h1 h2).same st9.gg).same gg10
    · have hj : j = ts.length := by
        have := (List.getElem?_eq_some_iff.mp h1).1
        rw [List.length_append, List.length_singleton] at this
        omega
      subst hj
      rw [List.getElem?_append_right (Nat.le_refl _), Nat.sub_self] at h1
      rw [← hms, List.getElem?_append_right (Nat.le_refl _), Nat.sub_self] at h2
      cases h1
      cases h2
      exact ⟨tu, x, rfl, upd_same, hA6.same gg10⟩
  rintro σ H' ⟨G', ts, ms, s3, s4, s5, s6, s7, s8, s9, s10, rfl, sI, PI, g', hL, hn, hms, hall⟩
  have hT : ∀ H : Hp, SqT K H (He.dflAt ("State", some "__init__") 1 K) [] := etB_ok (ex_8 T)
  have sml0 : Sml none [] := ⟨by simp, (fun m e => by cases e), fun q h => by cases h⟩
  have C0 := cls_State_ T
  have gs := PI.gh
  clear sI PI
  -- str(State())
  show ∀ x dx, _ → _ → _ → spSInit (CS K) (CT K) (SqT K) [.ref x, .non, .ref (He.dflAt ("State", some "__init__") 1 K)] _ _ _
  refine make_state (CS := CS K) (Sq := SqT K) (tv := .non) (xs := []) (o := none) (ws := []) gs (fun _ _ Hb _ _ _ => hT Hb) ⟨rfl, fun i v q h => by cases h⟩ rfl sml0 (fun Ga Ha x sa hA _ _ => ⟨rfl, ?_⟩)
  obtain ⟨dx, wa, tv, vs, e1, _⟩ := hA.ex
  refine ⟨x, dx, _, S (stx none []), rfl, sa.gh _ _ e1, ⟨Ga, none, [], sa.gh, hA, rfl⟩, rfl, _, rfl, ?_⟩
  have e0 : S (stx none []) = ("everywhere" : Str) := evw_.symm
  rw [e0]
  refine ite2 (fun c => absurd c (by simp)) (fun _ => ?_)
  have hLa := sa.same _ _ hL
  have ga : Same G' Ha := sa.gg.trans sa.gh
  clear sa hA e1
  -- State().term
  show ∀ x dx, _ → _ → _ → spSInit (CS K) (CT K) (SqT K) [.ref x, .non, .ref (He.dflAt ("State", some "__init__") 1 K)] _ _ _
  refine make_state (CS := CS K) (Sq := SqT K) (tv := .non) (xs := []) (o := none) (ws := []) ga (fun _ _ Hb _ _ _ => hT Hb) ⟨rfl, fun i v q h => by cases h⟩ rfl sml0 (fun Gb Hb x sb hB _ _ => ⟨rfl, ?_⟩)
  obtain ⟨dx, wa, tv, vs, e1, _, _, e4⟩ := hB.ex
  have e5 : tv = .non := e4
  subst e5
  refine ⟨x, CS K, dx, _, _, rfl, sb.gh _ _ e1, C0, noat_State_term T, sf_term, rfl, _, rfl, ?_⟩
  refine ite2 (fun c => absurd c (by simp)) (fun _ => ?_)
  have hLb := sb.same _ _ hLa
  have gb : Same G' Hb := sb.gg.trans sb.gh
  clear sb hB e1 e4
  -- State().wants
  show ∀ x dx, _ → _ → _ → spSInit (CS K) (CT K) (SqT K) [.ref x, .non, .ref (He.dflAt ("State", some "__init__") 1 K)] _ _ _
  refine make_state (CS := CS K) (Sq := SqT K) (tv := .non) (xs := []) (o := none) (ws := []) gb (fun _ _ Hb _ _ _ => hT Hb) ⟨rfl, fun i v q h => by cases h⟩ rfl sml0 (fun Gc Hc x sc hC _ _ => ⟨rfl, ?_⟩)
  obtain ⟨dx, wa, tv, vs, e1, e2, e3, _⟩ := hC.ex
  have ev : vs = [] := List.eq_nil_of_length_eq_zero e3.1
  subst ev
  refine ⟨x, CS K, dx, _, _, rfl, sc.gh _ _ e1, C0, noat_State_wants T, sf_wants, Nat.zero_le _, fun l0 hl0 => ?_⟩
  have hLc := sc.same _ _ hLb
  have gc : Same G' Hc := sc.gg.trans sc.gh
  have nl0 : lt ≠ l0 := ne_of_none hLc hl0
  have nw0 : wa ≠ l0 := ne_of_none (sc.gh _ _ e2) hl0
  refine ⟨.tuple [], .tuple [], .tup (SqT.of (by rw [upd_ne nw0]; exact sc.gh _ _ e2)) .nil, .tup (SqT.of upd_same) .nil, by decide, by decide, _, rfl, ?_⟩
  have ez : (PyData.tuple []).eqv (.tuple []) = true := by simp [PyData.eqv, PyData.eqvAll]
  rw [ez]
  refine iteF ?_
  have hLd : upd Hc l0 (.tup []) lt = some (.lst ts) := by rw [upd_ne nl0]; exact hLc
  have gd : Same G' (upd Hc l0 (.tup [])) := Same.new gc hl0
  generalize upd Hc l0 (.tup []) = Hd at *
  refine ⟨_, rfl, lt, rfl, ⟨ts, SqL.of hLd⟩, ?_⟩
  refine for_list (K := K) (a := lt) (xs := ts) (fun i σ H' => ∃ (s3 s4 s5 s6 s7 s8 s9 s10 : Option V), σ = [some (.ref a), some (.ref p), some (.ref lt), s3, s4, s5, s6, s7, s8, s9, s10] ∧ Same G' H' ∧ H' lt = some (.lst ts)) ⟨_, _, _, _, _, _, _, _, rfl, gd, hLd⟩ ?_ ?_ ?_
  · rintro i σ H' _ ⟨_, _, _, _, _, _, _, _, _, _, h⟩
    exact SqL.of h
  · rintro i x σ H' hx ⟨s3, s4, s5, s6, s7, s8, s9, s10, rfl, ge, hLe⟩
    obtain ⟨m1, hm1, _⟩ := get_pair (ys := ms) (by rw [hn, hms]) hx
    obtain ⟨t1, a1, rfl, ht1, hA1⟩ := hall i x m1 hx hm1
    refine ⟨t1, _, rfl, SqT.of (ge _ _ ht1), rfl, _, _, rfl, _, _, rfl, rfl, ?_⟩
    refine ⟨_, rfl, lt, rfl, ⟨ts, SqL.of hLe⟩, fun D hD => ?_⟩
    have nD : lt ≠ D := ne_of_none hLe hD
    refine lc_list (K := K) (a := lt) (xs := ts) (fun j H'' => Same G' H'' ∧ H'' lt = some (.lst ts) ∧ H'' D = some (.lst [])) ⟨Same.new ge hD, by rw [upd_ne nD]; exact hLe, upd_same⟩ ?_ ?_ ?_
    · rintro j H'' _ ⟨_, h, _⟩
      exact SqL.of h
    · rintro j x H'' hx2 ⟨gf, hLf, hDf⟩
      obtain ⟨m2, hm2, _⟩ := get_pair (ys := ms) (by rw [hn, hms]) hx2
      obtain ⟨t2, a2, rfl, ht2, hA2⟩ := hall j x m2 hx2 hm2
      refine ⟨t2, _, rfl, SqT.of (gf _ _ ht2), rfl, _, _, rfl, _, _, rfl, rfl, rfl, ?_⟩
      obtain ⟨dx1, wa1, tv1, vs1, e11, _⟩ := hA1.ex
      obtain ⟨dx2, wa2, tv2, vs2, e12, _⟩ := hA2.ex
      refine ⟨_, rfl, _, rfl, a1, dx1, _, .ref (CS K), decide (stx m1.1 m1.2 = stx m2.1 m2.2), rfl, gf _ _ e11, .base (.ins (gf _ _ e12) C0 I4.ha I4.hn I4.htk I4.hm), I4.nf, ⟨G', m1.1, m1.2, gf, hA1, .inl ⟨a2, m2.1, m2.2, rfl, hA2, rfl⟩⟩, _, rfl, _, rfl, rfl, rfl, _, rfl, ?_⟩
      refine ite2 (fun c => absurd c ?_) (fun _ => ⟨gf, hLf, hDf⟩)
      by_cases c2 : stx m1.1 m1.2 = stx m2.1 m2.2
      · simp [c2]
      · have c3 : ¬ S (stx m1.1 m1.2) = S (stx m2.1 m2.2) := fun z => c2 (S_inj z)
        simp [c2, c3]
    rintro H'' ⟨gf, hLf, hDf⟩
    refine ⟨Nat.zero_le _, fun l1 hl1 => ?_⟩
    have n1 : lt ≠ l1 := ne_of_none hLf hl1
    have n2 : D ≠ l1 := ne_of_none hDf hl1
    refine ⟨.list [], .list [], .lst (SqL.of (by rw [upd_ne n2]; exact hDf)) .nil, .lst (SqL.of upd_same) .nil, by decide, by decide, _, rfl, ?_⟩
    have ez2 : (PyData.list []).eqv (.list []) = true := by simp [PyData.eqv, PyData.eqvAll]
    rw [ez2]
    exact iteF ⟨_, _, _, _, _, _, _, _, rfl, Same.new gf hl1, by rw [upd_ne n1]; exact hLf⟩
  rintro σ H' ⟨_, _, _, _, _, _, _, _, rfl, _⟩
  exact q _
end Pf
namespace Pf
open PySem PySem.Spec PyProof.Rows L2
abbrev R : PySem.W.OpenRow := PySem.W.OpenLaw.row PySem.Challenge.rw_splitplans_k58_states_and_their_texts
abbrev hk : PySem.W.Hook := Hd.hook 5 fa ex defs
def ob (s : PySem.W.SharedT) : Hd.Al := Hd.atHeap 5 fa ex defs (HandSHeadRun.getT s)
theorem ob_eq (s : PySem.W.SharedT) : ob s = hk.obs s.abs := Hd.at_eq (HandSHeadRun.getT_eq s)
theorem run (w : World) : HandSHeadRun.RunEq R (PySem.W.view R.prog [37]) hk ob 6000 looseN w := by
  intro os
  kernel_rfl
end Pf
open PySem PySem.W PySem.Calls PyProof.Rows
theorem PySem.Challenge.cw_splitplans_k58_states_and_their_texts_holds : PySem.Challenge.rw_splitplans_k58_states_and_their_texts.Holds := by
  w_on; o_law
  refine HandSHeadRun.head_any (r := OpenLaw.row PySem.Challenge.rw_splitplans_k58_states_and_their_texts) (q := view (OpenLaw.row PySem.Challenge.rw_splitplans_k58_states_and_their_texts).prog [37]) (H := Pf.hk) (ob := Pf.ob) (M := 6000) (loose := Pf.looseN) (d := HandSHeadRun.topDef (OpenLaw.row PySem.Challenge.rw_splitplans_k58_states_and_their_texts).prog 37) (kwd := []) Pf.ob_eq
    (by kernel_rfl) (fun s => by kernel_rfl) Pf.run (by kernel_rfl) (by kernel_rfl) (by kernel_rfl) (by rfl) (by first | assumption | decide +kernel) (by decide +kernel) ⟨rfl, rfl, rfl, rfl, rfl, by decide +kernel⟩ ?hw ?hc
  case hw => w_witness2
  case hc =>
    refine L2.walk_ofE (l := PySem.Challenge.rw_splitplans_k58_states_and_their_texts) (n := 63) (k := 16) (x := "_law_script") (CX := C8.CX0) rfl (by decide) (by kernel_rfl) ⟨rfl, by decide, by decide⟩ ?F (fun _ _ _ _ z => z)
    intro w mg fa h Y G hmg0
    obtain ⟨K, KX, c⟩ := Y
    have hmg : mg ("law" : PySem.Str) = some (.ref fa) := by
      have e : (HandSHeadRun.topDef (OpenLaw.row PySem.Challenge.rw_splitplans_k58_states_and_their_texts).prog 37).name = ("law" : PySem.Str) := by kernel_rfl
      rw [← e]
      exact hmg0
    have T : Pf.Tx K mg := ⟨c, fun x hx => He.glo_ok KX G (c.fact hx), fun x hx => He.free_ok KX G (c.fact hx), fun x i hx => He.int_ok KX G (c.fact hx), fun x z hx => He.str_ok KX G (c.fact hx)⟩
    have e := hmg.symm.trans (Pf.g_law T)
    cases e
    obtain ⟨fd, F⟩ := Pf.f_law T
    have b := L2.FunD.bindsA (ps := ["_law_script"]) F fun _ _ _ _ _ _ us hl => match us, hl with | [_], _ => rfl
    exact ⟨K, fd, Bs.spLaw K, KX, fun s v => b s [v] rfl, fun H a ns hl hO hS => ⟨a, ns, rfl, Bs.Fz.only hO hS, hl, fun _ => rfl⟩, fun base _ _ => Pf.o_law T F⟩
