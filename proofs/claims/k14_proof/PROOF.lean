import PyProof.Rows.All
import Wide.All
import OpenK.AllK
import Wide.FinOn
import KE.KStateDown
import KE.DataMinMax
import KE.DatumOrd
import HandS.SortKw
import HandS.ForMost
import HandS.Property
import HandS.MakeKw
import HandS.FStr
import HandS.Star
import HandS.OwnEq
import HandS.IsInst
import HandS.Codes
import HandS.More
import HandS.Flow
import HandS.RaiseMore
import HandS.Defaults
import HandS.Style
import HandS.Conv
import HandS.Small
import HandS.Zip
import HandS.Wide
import HandS.Exc
import HandS.WordsExc
import HandS.Head0
import HandS.Head1
import HandS.Head2
import HandS.HeadEnd
import HandS.HeadHook1
import HandS.HeadHook2
import HandS.ClsMeth
import HandS.MakeKwOnly
import HandS.Strs
import HandS.NoneIn
import HandS.Deep
import PySem.Challenge.RW_splitplans_k14_tables_told
import KE.KCallOwn
import KE.GoesZip
import KE.GoesMore
import HandS.Zip0
import HandS.GenList
import HandS.GenYield
import PyProof.ReprLen
import PyProof.Rows.NestShow
set_option Elab.async false
set_option linter.all false
set_option maxRecDepth 100000
set_option maxHeartbeats 0
/-! ## the head: a Hook that tells every def by its own place in the written part -/
namespace Hd
open PySem PySem.Spec PyProof.Rows L2
abbrev Dn : Type := (PySem.W.Frag → Addr) × He.DefD
def inRec (kind : String) (c m : Str) (K : PySem.W.Frag) : Addr := match PySem.W.recIn K (He.ma K (He.ga K c) m) kind with
  | some (.ref g :: _) => g
  | _ => 0
def dG (x : Str) (st : Stmt) (dfl : List He.Dv) (kw : List (Str × He.Dv)) : Dn := (fun K => He.ga K x, ⟨(x, none), x, x, defArgs st, defBody st, defScope st, dfl, kw⟩)
def dM (c m q : Str) (st : Stmt) (dfl : List He.Dv) (kw : List (Str × He.Dv)) : Dn := (fun K => He.ma K (He.ga K c) m, ⟨(c, some m), m, q, defArgs st, defBody st, defScope st, dfl, kw⟩)
def dR (kind : String) (c m q : Str) (st : Stmt) (dfl : List He.Dv) (kw : List (Str × He.Dv)) : Dn := (fun K => inRec kind c m K, ⟨(c, some m), m, q, defArgs st, defBody st, defScope st, dfl, kw⟩)
/-- the parts of the function object at an address that a def's text fixes -/
def shown (K : PySem.W.Frag) (a : Addr) : He.FnW := (K.lookup a).bind fun o => match o.data with
  | .func f => some (f.name, f.qualname, f.params, f.body, f.scope, f.globals, f.closure, f.builtins)
  | _ => none
def sound (K : PySem.W.Frag) (d : Dn) : Bool := PySem.W.keepIn K (.ref (d.1 K)) && (((K.lookup (d.1 K)).bind fun o => match o.data with
  | .func f => some (PySem.W.codeIn K f.code d.2.qual && (He.dflB K f.defaults (d.2.dvs K) && He.kwdB K f.kwdefaults (d.2.kws K)))
  | _ => none).getD false)
theorem sound_fun {K : PySem.W.Frag} {d : Dn} (e : shown K (d.1 K) = d.2.val) (c : sound K d = true) :
    ∃ fd, FunD K d.2.name d.2.qual d.2.params d.2.body d.2.scope (d.2.dvs K) (d.2.kws K) (d.1 K) fd := by
  obtain ⟨keep, c2⟩ := Bool.and_eq_true_iff.mp c
  unfold shown at e
  rcases look : K.lookup (d.1 K) with _ | ⟨oc, od, dt, osl⟩
  · rw [look] at e
    cases e
  · rw [look] at e c2
    rcases dt with _ | _ | _ | _ | _ | _ | _ | _ | _ | _ | _ | _ | _
    all_goals first
      | (cases e; done)
      | skip
    all_goals
      rename_i fd
      obtain ⟨m1, m2, m3, m4, m5, m6, m7, m8, m9, m10, m11, m12, m13, m14, m15⟩ := fd
      have e' : (some (m1, m2, m3, m4, m5, m6, m7, m15) : He.FnW) = some (d.2.name, d.2.qual, d.2.params, .stmts d.2.body, d.2.scope, mainGlobals, [], builtinsNs) := e
      simp only [Option.some.injEq, Prod.mk.injEq] at e'
      obtain ⟨rfl, rfl, rfl, rfl, rfl, rfl, rfl, rfl⟩ := e'
      have c3 : (PySem.W.codeIn K m13 d.2.qual && (He.dflB K m8 (d.2.dvs K) && He.kwdB K m9 (d.2.kws K))) = true := c2
      obtain ⟨c4, c5⟩ := Bool.and_eq_true_iff.mp c3
      obtain ⟨c6, c7⟩ := Bool.and_eq_true_iff.mp c5
      exact ⟨_, ⟨oc, od, m8, m9, m10, m11, m12, m13, m14, osl, rfl, look, c4, He.dflB_ok c6, He.kwdB_ok c7⟩, keep⟩
/-! more facts, each a Bool over the written part -/
def propB (c f : Str) (K : PySem.W.Frag) : Bool :=
  He.eqO (PySem.W.findIn K (.ref (He.ga K c)) f) (some (some (.ref (He.ma K (He.ga K c) f)))) && (decide (PySem.W.specialIn K (.ref (He.ma K (He.ga K c) f)) "__get__" = some (some (.builtin "property.__get__"))) &&
    (decide (PySem.W.takesIn K (.ref (He.ma K (He.ga K c) f)) = some true) && (match PySem.W.recIn K (He.ma K (He.ga K c) f) "property" with | some (.ref g :: _) => decide (g = inRec "property" c f K) | _ => false)))
theorem propB_ok {c f : Str} {K : PySem.W.Frag} (h : propB c f K = true) : PropOf K (He.ga K c) f (He.ma K (He.ga K c) f) (inRec "property" c f K) := by
  obtain ⟨h1, h⟩ := Bool.and_eq_true_iff.mp h
  obtain ⟨h2, h⟩ := Bool.and_eq_true_iff.mp h
  obtain ⟨h3, h4⟩ := Bool.and_eq_true_iff.mp h
  refine ⟨He.eqO_ok h1, of_decide_eq_true h2, of_decide_eq_true h3, ?_⟩
  cases e : PySem.W.recIn K (He.ma K (He.ga K c) f) "property" with
  | none => rw [e] at h4; cases h4
  | some l =>
    rw [e] at h4
    cases l with
    | nil => cases h4
    | cons v r =>
      cases v with
      | ref g => exact ⟨r, by rw [of_decide_eq_true h4]⟩
      | _ => cases h4
def insB (c : Str) (K : PySem.W.Frag) : Bool := He.eqO (PySem.W.findIn K (.ref (He.ga K c)) "__class__") (some (some (.builtin "object.__class__"))) &&
  (decide (PySem.W.specialIn K (.builtin "object.__class__") "__get__" = some (some (.builtin "getset_descriptor.__get__"))) && (decide (PySem.W.takesIn K (.builtin "object.__class__") = some true) &&
    (decide (PySem.W.mroIn K (He.ga K c) (.type "object") = some true) && (decide (PySem.W.kitOne K (.ref (He.ga K c)) (.ref (He.ga K c)) = some true) && (PySem.W.notFirst K (He.ga K c) (.ref (He.ga K c)))))))
structure InsF (K : PySem.W.Frag) (C : Addr) : Prop where
  ha : PySem.W.findIn K (.ref C) "__class__" = some (some (.builtin "object.__class__"))
  hn : PySem.W.specialIn K (.builtin "object.__class__") "__get__" = some (some (.builtin "getset_descriptor.__get__"))
  htk : PySem.W.takesIn K (.builtin "object.__class__") = some true
  hm : PySem.W.mroIn K C (.type "object") = some true
  me : PySem.W.kitOne K (.ref C) (.ref C) = some true
  nf : PySem.W.notFirst K C (.ref C) = true
theorem insB_ok {c : Str} {K : PySem.W.Frag} (h : insB c K = true) : InsF K (He.ga K c) := by
  obtain ⟨h1, h⟩ := Bool.and_eq_true_iff.mp h
  obtain ⟨h2, h⟩ := Bool.and_eq_true_iff.mp h
  obtain ⟨h3, h⟩ := Bool.and_eq_true_iff.mp h
  obtain ⟨h4, h⟩ := Bool.and_eq_true_iff.mp h
  obtain ⟨h5, h6⟩ := Bool.and_eq_true_iff.mp h
  exact ⟨He.eqO_ok h1, of_decide_eq_true h2, of_decide_eq_true h3, of_decide_eq_true h4, of_decide_eq_true h5, h6⟩
/-- no value of this built-in type is an instance of the class, none goes first -/
def kitsB (c : Str) (ts : List String) (K : PySem.W.Frag) : Bool := ts.all fun t => decide (PySem.W.kitOne K (.type t) (.ref (He.ga K c)) = some false) && PySem.W.notFirst K (He.ga K c) (.type t)
theorem kitsB_ok {c : Str} {ts : List String} {K : PySem.W.Frag} (h : kitsB c ts K = true) {t : String} (ht : t ∈ ts) : PySem.W.kitOne K (.type t) (.ref (He.ga K c)) = some false ∧ PySem.W.notFirst K (He.ga K c) (.type t) = true := by
  obtain ⟨h1, h2⟩ := Bool.and_eq_true_iff.mp (List.all_eq_true.mp h t ht)
  exact ⟨of_decide_eq_true h1, h2⟩
def attB (c m : Str) (v : Value) (K : PySem.W.Frag) : Bool := He.eqO (PySem.W.findIn K (.ref (He.ga K c)) m) (some (some v))
abbrev Al : Type := Bool × List He.FnW
def seenBy (fa : List He.Fa) (ex : PySem.W.Frag → Bool) (fn : List Dn) (K : PySem.W.Frag) : Al := ((fa.all fun f => f.ok K) && (ex K && fn.all fun d => sound K d), fn.map fun d => shown K (d.1 K))
def wanted (fn : List Dn) : Al := (true, fn.map fun d => d.2.val)
def Says (fa : List He.Fa) (ex : PySem.W.Frag → Bool) (fn : List Dn) (K : PySem.W.Frag) : Prop := seenBy fa ex fn K = wanted fn
def atHeap (n : Nat) (fa : List He.Fa) (ex : PySem.W.Frag → Bool) (fn : List Dn) (g : Addr → Option Obj) : Al := seenBy fa ex fn (He.frG g (cStatics :: He.asD g n))
def hook (n : Nat) (fa : List He.Fa) (ex : PySem.W.Frag → Bool) (fn : List Dn) : PySem.W.Hook where
  α := Al
  obs := fun s => atHeap n fa ex fn s.heap.get?
  val := fun _ => wanted fn
  says := fun _ h => ∃ K : PySem.W.Frag, K.In h ∧ Says fa ex fn K
  of := fun _ _ e => ⟨_, He.frG_in, e⟩
  keeps := fun _ _ _ ⟨K, hK, c⟩ k => ⟨K, PySem.W.Frag.In.keeps hK k, c⟩
theorem at_eq {n : Nat} {fa : List He.Fa} {ex : PySem.W.Frag → Bool} {fn : List Dn} {g : Addr → Option Obj} {s : Shared} (h : ∀ a, g a = s.heap.get? a) : atHeap n fa ex fn g = (hook n fa ex fn).obs s := by
  obtain rfl : g = s.heap.get? := funext h
  rfl
section
variable {fa : List He.Fa} {ex : PySem.W.Frag → Bool} {fn : List Dn} {K : PySem.W.Frag}
theorem Says.fst (c : Says fa ex fn K) : ((fa.all fun f => f.ok K) && (ex K && fn.all fun d => sound K d)) = true := congrArg (fun z : Al => z.1) c
theorem Says.fact (c : Says fa ex fn K) {f : He.Fa} (h : f ∈ fa) : f.ok K = true := List.all_eq_true.mp (Bool.and_eq_true_iff.mp c.fst).1 f h
theorem Says.more (c : Says fa ex fn K) : ex K = true := (Bool.and_eq_true_iff.mp (Bool.and_eq_true_iff.mp c.fst).2).1
theorem Says.fun_ (c : Says fa ex fn K) (i : Nat) {d : Dn} (h : fn[i]? = some d) : ∃ fd, FunD K d.2.name d.2.qual d.2.params d.2.body d.2.scope (d.2.dvs K) (d.2.kws K) (d.1 K) fd := by
  have all := List.all_eq_true.mp (Bool.and_eq_true_iff.mp (Bool.and_eq_true_iff.mp c.fst).2).2 d (List.mem_of_getElem? h)
  have e : fn.map (fun d => shown K (d.1 K)) = fn.map fun d => d.2.val := congrArg (fun z : Al => z.2) c
  have e2 : (fn.map fun d => shown K (d.1 K))[i]? = (fn.map fun d => d.2.val)[i]? := by rw [e]
  rw [List.getElem?_map, List.getElem?_map, h] at e2
  exact sound_fun (Option.some.inj e2) all
end
end Hd
namespace Hd
open PySem PySem.Spec PyProof.Rows L2
def cmB (c m : Str) (K : PySem.W.Frag) : Bool := PySem.W.readsIn K (He.ga K c) (.type "type") && (He.eqO (PySem.W.specialIn K (.ref (He.ga K c)) "__getattribute__") (some (some (.builtin "type.__getattribute__"))) &&
  ((match PySem.W.findCls K (.ref (He.ga K c)) (.type "type") m with | some (.get (.builtin a) (.ref p) .none (.ref C)) => decide (a = "classmethod.__get__") && (decide (p = He.ma K (He.ga K c) m) && decide (C = He.ga K c)) | _ => false) &&
    ((match PySem.W.recIn K (He.ma K (He.ga K c) m) "classmethod" with | some (.ref g :: _) => decide (g = inRec "classmethod" c m K) | _ => false) && PySem.W.fnIn K (inRec "classmethod" c m K))))
theorem cmB_ok {c m : Str} {K : PySem.W.Frag} (h : cmB c m K = true) : ClX.CRead K (He.ga K c) (.type "type") ∧ ClX.CMet K (He.ga K c) (.type "type") m (He.ma K (He.ga K c) m) (inRec "classmethod" c m K) := by
  obtain ⟨h1, h⟩ := Bool.and_eq_true_iff.mp h
  obtain ⟨h2, h⟩ := Bool.and_eq_true_iff.mp h
  obtain ⟨h3, h⟩ := Bool.and_eq_true_iff.mp h
  obtain ⟨h4, h5⟩ := Bool.and_eq_true_iff.mp h
  refine ⟨⟨h1, He.eqO_ok h2⟩, ⟨?_, ?_, h5⟩⟩
  · cases e : PySem.W.findCls K (.ref (He.ga K c)) (.type "type") m with
    | none => rw [e] at h3; cases h3
    | some r =>
      rw [e] at h3
      cases r with
      | get a b d f =>
        cases a <;> try (cases h3; done)
        cases b <;> try (cases h3; done)
        cases d <;> try (cases h3; done)
        cases f <;> try (cases h3; done)
        obtain ⟨q1, q⟩ := Bool.and_eq_true_iff.mp h3
        obtain ⟨q2, q3⟩ := Bool.and_eq_true_iff.mp q
        rw [of_decide_eq_true q1, of_decide_eq_true q2, of_decide_eq_true q3]
      | val v => cases h3
  · cases e : PySem.W.recIn K (He.ma K (He.ga K c) m) "classmethod" with
    | none => rw [e] at h4; cases h4
    | some l =>
      rw [e] at h4
      cases l with
      | nil => cases h4
      | cons v r =>
        cases v with
        | ref g => exact ⟨r, by rw [of_decide_eq_true h4]⟩
        | _ => cases h4
end Hd
namespace Hd
open PySem PySem.Spec PyProof.Rows L2
/-- the default of a keyword-only parameter, if it is an object -/
def kwAt (f : Str × Option Str) (x : Str) (K : PySem.W.Frag) : Addr := match K.lookup (He.fAd K f) with
  | some ⟨_, _, .func fd, _⟩ => (match fd.kwdefaults with
    | .ref t => (match PySem.W.nsIn K t x with
      | some (some (.ref b)) => b
      | _ => 0)
    | _ => 0)
  | _ => 0
/-- the i-th thing of a tuple, if it is an object -/
def itAt (x : Str) (i : Nat) (K : PySem.W.Frag) : Addr := match K.lookup (He.ga K x) with
  | some ⟨_, _, .seq its _, _⟩ => (match its.toList[i]? with
    | some (.ref b) => b
    | _ => 0)
  | _ => 0
/-- a tuple of the written part, by its place -/
def tupAtB (K : PySem.W.Frag) (a : Addr) (vs : List V) : Bool := match K.lookup a with
  | some ⟨.type c, _, .seq its _, _⟩ => decide (c = "tuple") && (decide (its.size ≤ sizeLine) && He.relAll vs its.toList)
  | _ => false
theorem tupAtB_ok {K : PySem.W.Frag} {a : Addr} {vs : List V} (h : tupAtB K a vs = true) (H : Hp) : SqT K H a vs := by
  unfold tupAtB at h
  split at h
  · rename_i q
    obtain ⟨h1, h2⟩ := Bool.and_eq_true_iff.mp h
    obtain ⟨h3, h4⟩ := Bool.and_eq_true_iff.mp h2
    exact .inr ⟨_, _, _, q, congrArg Value.type (of_decide_eq_true h1), rfl, of_decide_eq_true h3, He.relAll_ok h4⟩
  · cases h
end Hd
/-! ## short words over the layer -/
namespace Bs
open PySem PySem.Spec PyProof.Rows L2
variable {P : Program} {w : World} {K : PySem.W.Frag} {mg : Str → Option Value} {base : Heap}
/-- a promise's def, called by its name, no defaults asked -/
theorem mkCal {nm qual x : Str} {par : Arguments} {bd : List Stmt} {sco : Scope} {N ps : List Str} {k : Nat} {sp : Sp} {kws : List (Str × V)} {dvs dvs' : List V} {ds : List Value} {a : Addr} {fd : FuncData}
    (F : FunD K nm qual par bd sco dvs' kws a fd) (hm : mg x = some (.ref a)) (b : Binds K fd ps ds) (v : Vals dvs ds) (S : FnScope N ps sco) (len : ∀ vs H Q E, sp vs H Q E → vs.length = ps.length)
    (body : ∀ (cdv : Value) (A : Around) (outer : List Env) (s : Shared) (H : Hp) (vs : List V) (Q : VK) (E : XK), Room k (A.deeper (envOfC qual sco s.heap.objs.size a cdv)) → sp vs H Q E →
      ∃ t, PSs (cxOf C8.CX0 P w K mg base N qual sco a cdv A outer s H E).nox bd t ∧ t { nx := fun _ H' => Q .non H', rt := Q } (start N vs) H) : C8.Cal P w K mg base (k + 1) x sp dvs :=
  ⟨a, fd, ps, ds, F.ok S len fun cdv A outer s H vs Q E hr h => let ⟨t, h1, h2⟩ := body cdv A outer s H vs Q E hr h
    ⟨t, h1.nox, h2⟩, hm, F.kp, b, v⟩
theorem Cal.mono {j k : Nat} {x : Str} {sp : Sp} {dvs : List V} (c : C8.Cal P w K mg base j x sp dvs) (h : j ≤ k) : C8.Cal P w K mg base k x sp dvs := by
  obtain ⟨f, fd, ps, ds, F, r⟩ := c.ex
  exact ⟨f, fd, ps, ds, F.mono h, r⟩
/-- all is kept but what stands at p -/
def Kp (p : Addr) (H H' : Hp) : Prop := ∀ b o, H b = some o → b ≠ p → H' b = some o
theorem Kp.refl (p : Addr) (H : Hp) : Kp p H H := fun _ _ e _ => e
theorem Kp.trans {p : Addr} {H H1 H2 : Hp} (a : Kp p H H1) (b : Kp p H1 H2) : Kp p H H2 := fun c o e n => b c o (a c o e n) n
theorem Kp.of {p : Addr} {H H' : Hp} (a : Same H H') : Kp p H H' := fun c o e _ => a c o e
theorem Kp.upd {p : Addr} {H : Hp} {o : HO} : Kp p H (upd H p o) := fun c u e n => by rw [upd_ne n]; exact e
theorem Kp.new {p q : Addr} {H H' : Hp} {o : HO} (a : Kp p H H') (hq : H' q = none) : Kp p H (L2.upd H' q o) := fun c u e n => by rw [upd_ne (ne_of_none (a c u e n) hq)]; exact a c u e n
theorem Kp.put {p : Addr} {H H' : Hp} {o : HO} (a : Kp p H H') : Kp p H (L2.upd H' p o) := fun c u e n => by rw [upd_ne n]; exact a c u e n
/-- a step at an address that was free when the count began -/
theorem Kp.loc {p q : Addr} {H H' : Hp} {o : HO} (a : Kp p H H') (hq : H q = none) : Kp p H (L2.upd H' q o) := fun c u e n => by rw [upd_ne (ne_of_none e hq)]; exact a c u e n
theorem Same.new {q : Addr} {H H' : Hp} {o : HO} (a : Same H H') (hq : H' q = none) : Same H (L2.upd H' q o) := fun c u e => by rw [upd_ne (ne_of_none (a c u e) hq)]; exact a c u e
theorem Same.loc {q : Addr} {H H' : Hp} {o : HO} (a : Same H H') (hq : H q = none) : Same H (L2.upd H' q o) := fun c u e => by rw [upd_ne (ne_of_none e hq)]; exact a c u e
theorem SqL.kp {p a : Addr} {H H' : Hp} {xs : List V} (h : SqL K H a xs) (k : Kp p H H') (n : ∀ o, H a = some o → a ≠ p) : SqL K H' a xs := by
  rcases h with (h | ⟨o, h⟩) | h
  · exact .inl (.inl (k a _ h (n _ h)))
  · exact .inl (.inr ⟨o, k a _ h (n _ h)⟩)
  · exact .inr h
theorem SqT.kp {p a : Addr} {H H' : Hp} {xs : List V} (h : SqT K H a xs) (k : Kp p H H') (n : ∀ o, H a = some o → a ≠ p) : SqT K H' a xs := by
  rcases h with (h | ⟨o, h⟩) | h
  · exact .inl (.inl (k a _ h (n _ h)))
  · exact .inl (.inr ⟨o, k a _ h (n _ h)⟩)
  · exact .inr h
/-- the pen's dict: the script, the place of the next cell, what is left of a large one -/
def penD (a : Addr) (i l : Int) : HO := .dK [(Sum.inr "script", .ref a), (Sum.inr "at", .int i), (Sum.inr "left", .int l)]
/-- a locked list: nothing that runs changes it -/
def Fz (K : PySem.W.Frag) (H : Hp) (a : Addr) (xs : List V) : Prop := (∃ o, H a = some (.frz o (.lst xs))) ∨ ∀ H' : Hp, SqL K H' a xs
theorem Fz.sq {H : Hp} {a : Addr} {xs : List V} (h : Fz K H a xs) : SqL K H a xs := by
  rcases h with ⟨o, h⟩ | h
  · exact .inl (.inr ⟨o, h⟩)
  · exact h H
theorem Fz.to {H H' : Hp} {a : Addr} {xs : List V} (h : Fz K H a xs) (k : ∀ o u, H a = some (.frz o u) → H' a = some (.frz o u)) : Fz K H' a xs := by
  rcases h with ⟨o, h⟩ | h
  · exact .inl ⟨o, k _ _ h⟩
  · exact .inr h
theorem Fz.only {H : Hp} {a : Addr} {xs : List V} (o : Only H) (h : SqL K H a xs) : Fz K H a xs := by
  rcases h with (h | h) | h
  · rcases o a with e | ⟨_, _, e⟩
    · rw [e] at h; cases h
    · rw [e] at h; cases h
  · exact .inl h
  · exact .inr fun _ => .inr h
/-- what is at q is no locked thing -/
def Loose (H : Hp) (q : Addr) : Prop := ∀ o u, H q ≠ some (.frz o u)
theorem Loose.nil {H : Hp} {q : Addr} (h : H q = none) : Loose H q := fun o u e => by rw [h] at e; cases e
theorem Loose.lst {H : Hp} {q : Addr} {xs : List V} (h : H q = some (.lst xs)) : Loose H q := fun o u e => by rw [h] at e; cases e
theorem Loose.dK {H : Hp} {q : Addr} {xs : List (Key × V)} (h : H q = some (.dK xs)) : Loose H q := fun o u e => by rw [h] at e; cases e
theorem Fz.upd {H : Hp} {q a : Addr} {xs : List V} {u : HO} (h : Fz K H a xs) (l : Loose H q) : Fz K (L2.upd H q u) a xs :=
  h.to fun o v e => by rw [upd_ne (fun z => l o v (by rw [← z]; exact e))]; exact e
/-- a pen at p that has drawn at most n cells -/
def Pen (K : PySem.W.Frag) (H : Hp) (p : Addr) (n : Nat) : Prop := ∃ (a : Addr) (ns : List Int) (i l : Int), H p = some (penD a i l) ∧ Fz K H a (ns.map V.int) ∧ ns.length ≤ 63 ∧ 0 ≤ i ∧ i ≤ n ∧ 0 ≤ l
theorem Pen.mono {H : Hp} {p : Addr} {n m : Nat} (h : Pen K H p n) (l : n ≤ m) : Pen K H p m := by
  obtain ⟨a, ns, i, q, h1, h2, h3, h4, h5, h6⟩ := h
  exact ⟨a, ns, i, q, h1, h2, h3, h4, by omega, h6⟩
theorem Fz.kpen {H H' : Hp} {p a : Addr} {i l : Int} {b : Addr} {xs : List V} (h : H p = some (penD a i l)) (s : Fz K H b xs) (k : Kp p H H') : Fz K H' b xs :=
  s.to fun o u e => k b _ e (ne_of e h (by intro z; cases z))
/-- other objects are made or changed, the pen is not -/
theorem Pen.same {H H' : Hp} {p : Addr} {n : Nat} (h : Pen K H p n) (k : Same H H') : Pen K H' p n := by
  obtain ⟨a, ns, i, q, h1, h2, h3, h4, h5, h6⟩ := h
  exact ⟨a, ns, i, q, k _ _ h1, h2.to fun _ _ e => k _ _ e, h3, h4, h5, h6⟩
theorem Pen.upd {H : Hp} {p q : Addr} {n : Nat} {o : HO} (h : Pen K H p n) (hq : H q = none) : Pen K (L2.upd H q o) p n := h.same (Same.new (Same.refl H) hq)
theorem Pen.put {H : Hp} {p q : Addr} {n : Nat} {o : HO} {xs : List V} (h : Pen K H p n) (hq : H q = .some (.lst xs)) : Pen K (L2.upd H q o) p n := by
  obtain ⟨a, ns, i, l, h1, h2, h3, h4, h5, h6⟩ := h
  exact ⟨a, ns, i, l, by rw [upd_ne (ne_of h1 hq (by intro z; cases z))]; exact h1, h2.upd (Loose.lst hq), h3, h4, h5, h6⟩
theorem Kp.free {p D : Addr} {H H' : Hp} (k : Kp p H H') (h : H' D = none) (hp : H' p ≠ none) : H D = none := by
  have ne : D ≠ p := fun q => hp (by rw [← q]; exact h)
  cases e : H D with
  | none => rfl
  | some o => rw [k D o e ne] at h; cases h
theorem Pen.ne {H : Hp} {p D : Addr} {n : Nat} (h : Pen K H p n) (e : H D = none) : D ≠ p := by
  obtain ⟨_, _, _, _, hp, _⟩ := h
  exact (ne_of_none hp e).symm
theorem Pen.there {H : Hp} {p : Addr} {n : Nat} (h : Pen K H p n) : H p ≠ none := by
  obtain ⟨_, _, _, _, hp, _⟩ := h
  rw [hp]
  exact fun q => by cases q
theorem Pen.nel {H : Hp} {p D : Addr} {n : Nat} {xs : List V} (h : Pen K H p n) (e : H D = .some (.lst xs)) : D ≠ p := by
  obtain ⟨_, _, _, _, hp, _⟩ := h
  exact ne_of e hp (by intro z; cases z)
theorem Pen.net {H : Hp} {p D : Addr} {n : Nat} {xs : List V} (h : Pen K H p n) (e : H D = .some (.tup xs)) : D ≠ p := by
  obtain ⟨_, _, _, _, hp, _⟩ := h
  exact ne_of e hp (by intro z; cases z)
theorem script_ne : ¬ (("script" : Str) = "at") ∧ ¬ (("script" : Str) = "left") ∧ ¬ (("at" : Str) = "left") ∧ ¬ (("at" : Str) = "script") ∧ ¬ (("left" : Str) = "script") ∧ ¬ (("left" : Str) = "at") := by decide +kernel
theorem atI_of {α : Type} {xs : List α} {k : Int} (h0 : 0 ≤ k) (h1 : k < (xs.length : Nat)) : ∃ v, atI xs k = some v ∧ v ∈ xs ∧ xs[k.toNat]? = some v := by
  have hk : k.toNat < xs.length := by omega
  have ek : k = ((k.toNat : Nat) : Int) := by omega
  refine ⟨xs[k.toNat], ?_, List.getElem_mem hk, List.getElem?_eq_getElem hk⟩
  have z : atI xs ((k.toNat : Nat) : Int) = some xs[k.toNat] := atI_nat (List.getElem?_eq_getElem hk)
  rw [← ek] at z
  exact z
theorem atI_int {ns : List Int} {k : Int} (h0 : 0 ≤ k) (h1 : k < (ns.length : Nat)) : ∃ v : Int, atI (ns.map V.int) k = some (.int v) ∧ v ∈ ns := by
  obtain ⟨x, e, hx, _⟩ := atI_of (xs := ns.map V.int) h0 (by rw [List.length_map]; exact h1)
  obtain ⟨v, hv, rfl⟩ := List.mem_map.mp hx
  exact ⟨v, e, hv⟩
end Bs
namespace Pf
open PySem PySem.Spec PyProof.Rows L2
def top (i : Nat) : Stmt := PySem.Challenge.pw_splitplans_k14_tables_told.main.body.getD i (.Pass ⟨0, 0, 0, 0⟩)
abbrev s_is_name : Stmt := top 9
abbrev s_has_twice : Stmt := top 11
abbrev s_Table_init : Stmt := inClass (top 15) 1
abbrev s_Table_with_lie : Stmt := inClass (top 15) 2
abbrev s_Table_with_key : Stmt := inClass (top 15) 3
abbrev s_Table_eq : Stmt := inClass (top 15) 4
abbrev s_Table_str : Stmt := inClass (top 15) 5
abbrev s_fault_of : Stmt := top 16
abbrev s_are_unlike : Stmt := top 17
abbrev s_is_dealt : Stmt := top 18
abbrev s_row_of : Stmt := top 19
abbrev s_Lpen : Stmt := top 21
abbrev s_Ldraw : Stmt := top 22
abbrev s_Lpick : Stmt := top 23
abbrev s_Lsome : Stmt := top 24
abbrev s_Lnames : Stmt := top 25
abbrev s_Llie : Stmt := top 26
abbrev s_Lbare : Stmt := top 27
abbrev s_Lmade : Stmt := top 28
abbrev s_Lrow_of : Stmt := top 29
abbrev s_Lis : Stmt := top 30
abbrev s_Lother : Stmt := top 31
abbrev s_Lkeyed : Stmt := top 32
abbrev s_law : Stmt := top 33
def d_is_name : Hd.Dn := Hd.dG "is_name" s_is_name [] []
def d_has_twice : Hd.Dn := Hd.dG "has_twice" s_has_twice [] []
def d_Table_init : Hd.Dn := Hd.dM "Table" "__init__" "Table.__init__" s_Table_init [] [("key", .adr (Hd.kwAt ("Table", some "__init__") "key")), ("lies", .adr (Hd.kwAt ("Table", some "__init__") "lies"))]
def d_Table_with_lie : Hd.Dn := Hd.dM "Table" "with_lie" "Table.with_lie" s_Table_with_lie [] []
def d_Table_with_key : Hd.Dn := Hd.dM "Table" "with_key" "Table.with_key" s_Table_with_key [] []
def d_Table_eq : Hd.Dn := Hd.dM "Table" "__eq__" "Table.__eq__" s_Table_eq [] []
def d_Table_str : Hd.Dn := Hd.dM "Table" "__str__" "Table.__str__" s_Table_str [] []
def d_fault_of : Hd.Dn := Hd.dG "_fault_of" s_fault_of [] []
def d_are_unlike : Hd.Dn := Hd.dG "_are_unlike" s_are_unlike [] []
def d_is_dealt : Hd.Dn := Hd.dG "_is_dealt" s_is_dealt [] []
def d_row_of : Hd.Dn := Hd.dG "_row_of" s_row_of [] []
def d_Lpen : Hd.Dn := Hd.dG "_law_pen" s_Lpen [] []
def d_Ldraw : Hd.Dn := Hd.dG "_law_draw" s_Ldraw [] []
def d_Lpick : Hd.Dn := Hd.dG "_law_pick" s_Lpick [] []
def d_Lsome : Hd.Dn := Hd.dG "_law_some" s_Lsome [] []
def d_Lnames : Hd.Dn := Hd.dG "_law_names" s_Lnames [] []
def d_Llie : Hd.Dn := Hd.dG "_law_lie" s_Llie [] []
def d_Lbare : Hd.Dn := Hd.dG "_law_bare" s_Lbare [] []
def d_Lmade : Hd.Dn := Hd.dG "_law_made" s_Lmade [] []
def d_Lrow_of : Hd.Dn := Hd.dG "_law_row_of" s_Lrow_of [] []
def d_Lis : Hd.Dn := Hd.dG "_law_is" s_Lis [] []
def d_Lother : Hd.Dn := Hd.dG "_law_other" s_Lother [] []
def d_Lkeyed : Hd.Dn := Hd.dG "_law_keyed" s_Lkeyed [] []
def d_law : Hd.Dn := Hd.dG "law" s_law [] []
def defs : List Hd.Dn := [d_is_name, d_has_twice, d_Table_init, d_Table_with_lie, d_Table_with_key, d_Table_eq, d_Table_str, d_fault_of, d_are_unlike, d_is_dealt, d_row_of, d_Lpen, d_Ldraw, d_Lpick, d_Lsome, d_Lnames, d_Llie, d_Lbare, d_Lmade, d_Lrow_of, d_Lis, d_Lother, d_Lkeyed, d_law]
def fa : List He.Fa := [.glo "PlanError", .glo "InputError", .glo "InvalidTable", .glo "is_name", .glo "has_twice", .glo "Table", .glo "_fault_of", .glo "_are_unlike", .glo "_is_dealt", .glo "_row_of", .glo "_law_pen", .glo "_law_draw", .glo "_law_pick", .glo "_law_some", .glo "_law_names", .glo "_law_lie", .glo "_law_bare", .glo "_law_made", .glo "_law_row_of", .glo "_law_is", .glo "_law_other", .glo "_law_keyed", .glo "law", .free "abs", .free "all", .free "int", .free "isinstance", .free "len", .free "list", .free "min", .free "range", .free "repr", .free "set", .free "str", .free "tuple", .glo "WORDS", .glo "PLAIN_LIES", .int "MOST_CHARACTERS" 8, .int "MOST_DEALT" 3, .str "LETTERS" "abcdefghijklmnopqrstuvwxyz", .str "CHARACTERS" "abcdefghijklmnopqrstuvwxyz0123456789_", .cls "Table", .mkr "Table", .noat "Table" "name", .noat "Table" "columns", .noat "Table" "key", .noat "Table" "lies", .noat "Table" "text", .meth "Table" "__init__", .meth "Table" "__eq__", .meth "Table" "__str__", .meth "Table" "with_lie", .meth "Table" "with_key"]
def loose0 : List PySem.Str := ["PlanError", "InputError", "InvalidTable", "MOST_CHARACTERS", "LETTERS", "CHARACTERS", "WORDS", "is_name", "has_twice", "MOST_DEALT", "PLAIN_LIES", "Table", "_fault_of", "_are_unlike", "_is_dealt", "_row_of", "_law_pen", "_law_draw", "_law_pick", "_law_some"]
def loose1 : List PySem.Str := ["_law_names", "_law_lie", "_law_bare", "_law_made", "_law_row_of", "_law_is", "_law_other", "_law_keyed"]
def looseN : List PySem.Str := loose0 ++ loose1

end Pf
namespace Hd
open PySem PySem.Spec PyProof.Rows L2
def clsIntB (K : PySem.W.Frag) (c f : Str) (i : Int) : Bool := match PySem.W.findCls K (.ref (He.ga K c)) (.type "type") f with
  | some (.val (.int j _)) => decide (i = j)
  | _ => false
theorem clsIntB_ok {K : PySem.W.Frag} {c f : Str} {i : Int} (h : clsIntB K c f i = true) : ∃ u, ClX.CVal K (He.ga K c) (.type "type") f (.int i) u := by
  unfold clsIntB at h
  split at h
  · rename_i j t q
    exact ⟨_, q, ⟨t, by rw [of_decide_eq_true h]⟩⟩
  · cases h
end Hd
namespace Pf
open PySem PySem.Spec PyProof.Rows L2
def wordsD : List He.Dv := [.str "table", .str "key", .str "dealt", .str "anyhow", .str "copied", .str "zero", .str "scan", .str "where", .str "compute", .str "equal", .str "keep", .str "distinct", .str "group", .str "with", .str "count", .str "sum", .str "sort", .str "own", .str "split", .str "broadcast", .str "gather", .str "merge", .str "join", .str "semi", .str "anti", .str "union", .str "answer", .str "in", .str "self"]
def ex (K : PySem.W.Frag) : Bool := (Hd.insB "Table" K && (Hd.kitsB "Table" ["NoneType", "bool", "int", "str", "list", "tuple", "dict"] K && (Hd.attB "Table" "__ne__" (.builtin "object.__ne__") K && (He.tupB K "WORDS" wordsD && (He.tupB K "PLAIN_LIES" [.adr (Hd.itAt "PLAIN_LIES" 0), .adr (Hd.itAt "PLAIN_LIES" 1), .adr (Hd.itAt "PLAIN_LIES" 2)] && (Hd.tupAtB K (Hd.itAt "PLAIN_LIES" 0 K) [.str "copied"] && (Hd.tupAtB K (Hd.itAt "PLAIN_LIES" 1 K) [.str "anyhow"] && (Hd.tupAtB K (Hd.itAt "PLAIN_LIES" 2 K) [.str "zero"] && (Hd.tupAtB K (Hd.kwAt ("Table", some "__init__") "key" K) [] && (Hd.tupAtB K (Hd.kwAt ("Table", some "__init__") "lies" K) [.str "anyhow"] && (PySem.W.readsIn K (He.ga K "Table") (.type "type") && (He.eqO (PySem.W.specialIn K (.ref (He.ga K "Table")) "__getattribute__") (some (some (.builtin "type.__getattribute__"))) && (Hd.clsIntB K "Table" "MOST_COLUMNS" 8 && true)))))))))))))
/-- what the head tells -/
structure Tx (K : PySem.W.Frag) (mg : Str → Option Value) : Prop where
  says : Hd.Says fa ex defs K
  glo : ∀ x, He.Fa.glo x ∈ fa → mg x = some (.ref (He.ga K x))
  fre : ∀ x, He.Fa.free x ∈ fa → mg x = none
  cin : ∀ x i, He.Fa.int x i ∈ fa → ∃ t, mg x = some (.int i t)
  cst : ∀ x z, He.Fa.str x z ∈ fa → ∃ t, mg x = some (.str z t)
section
variable {K : PySem.W.Frag} {mg : Str → Option Value}
theorem g_PlanError (T : Tx K mg) : mg "PlanError" = some (.ref (He.ga K "PlanError")) := T.glo _ (List.mem_of_getElem? (i := 0) rfl)
theorem g_InputError (T : Tx K mg) : mg "InputError" = some (.ref (He.ga K "InputError")) := T.glo _ (List.mem_of_getElem? (i := 1) rfl)
theorem g_InvalidTable (T : Tx K mg) : mg "InvalidTable" = some (.ref (He.ga K "InvalidTable")) := T.glo _ (List.mem_of_getElem? (i := 2) rfl)
theorem g_is_name (T : Tx K mg) : mg "is_name" = some (.ref (He.ga K "is_name")) := T.glo _ (List.mem_of_getElem? (i := 3) rfl)
theorem g_has_twice (T : Tx K mg) : mg "has_twice" = some (.ref (He.ga K "has_twice")) := T.glo _ (List.mem_of_getElem? (i := 4) rfl)
theorem g_Table (T : Tx K mg) : mg "Table" = some (.ref (He.ga K "Table")) := T.glo _ (List.mem_of_getElem? (i := 5) rfl)
theorem g_fault_of (T : Tx K mg) : mg "_fault_of" = some (.ref (He.ga K "_fault_of")) := T.glo _ (List.mem_of_getElem? (i := 6) rfl)
theorem g_are_unlike (T : Tx K mg) : mg "_are_unlike" = some (.ref (He.ga K "_are_unlike")) := T.glo _ (List.mem_of_getElem? (i := 7) rfl)
theorem g_is_dealt (T : Tx K mg) : mg "_is_dealt" = some (.ref (He.ga K "_is_dealt")) := T.glo _ (List.mem_of_getElem? (i := 8) rfl)
theorem g_row_of (T : Tx K mg) : mg "_row_of" = some (.ref (He.ga K "_row_of")) := T.glo _ (List.mem_of_getElem? (i := 9) rfl)
theorem g_law_pen (T : Tx K mg) : mg "_law_pen" = some (.ref (He.ga K "_law_pen")) := T.glo _ (List.mem_of_getElem? (i := 10) rfl)
theorem g_law_draw (T : Tx K mg) : mg "_law_draw" = some (.ref (He.ga K "_law_draw")) := T.glo _ (List.mem_of_getElem? (i := 11) rfl)
theorem g_law_pick (T : Tx K mg) : mg "_law_pick" = some (.ref (He.ga K "_law_pick")) := T.glo _ (List.mem_of_getElem? (i := 12) rfl)
theorem g_law_some (T : Tx K mg) : mg "_law_some" = some (.ref (He.ga K "_law_some")) := T.glo _ (List.mem_of_getElem? (i := 13) rfl)
theorem g_law_names (T : Tx K mg) : mg "_law_names" = some (.ref (He.ga K "_law_names")) := T.glo _ (List.mem_of_getElem? (i := 14) rfl)
theorem g_law_lie (T : Tx K mg) : mg "_law_lie" = some (.ref (He.ga K "_law_lie")) := T.glo _ (List.mem_of_getElem? (i := 15) rfl)
theorem g_law_bare (T : Tx K mg) : mg "_law_bare" = some (.ref (He.ga K "_law_bare")) := T.glo _ (List.mem_of_getElem? (i := 16) rfl)
theorem g_law_made (T : Tx K mg) : mg "_law_made" = some (.ref (He.ga K "_law_made")) := T.glo _ (List.mem_of_getElem? (i := 17) rfl)
theorem g_law_row_of (T : Tx K mg) : mg "_law_row_of" = some (.ref (He.ga K "_law_row_of")) := T.glo _ (List.mem_of_getElem? (i := 18) rfl)
theorem g_law_is (T : Tx K mg) : mg "_law_is" = some (.ref (He.ga K "_law_is")) := T.glo _ (List.mem_of_getElem? (i := 19) rfl)
theorem g_law_other (T : Tx K mg) : mg "_law_other" = some (.ref (He.ga K "_law_other")) := T.glo _ (List.mem_of_getElem? (i := 20) rfl)
theorem g_law_keyed (T : Tx K mg) : mg "_law_keyed" = some (.ref (He.ga K "_law_keyed")) := T.glo _ (List.mem_of_getElem? (i := 21) rfl)
theorem g_law (T : Tx K mg) : mg "law" = some (.ref (He.ga K "law")) := T.glo _ (List.mem_of_getElem? (i := 22) rfl)
theorem z_abs (T : Tx K mg) : mg "abs" = none := T.fre _ (List.mem_of_getElem? (i := 23) rfl)
theorem z_all (T : Tx K mg) : mg "all" = none := T.fre _ (List.mem_of_getElem? (i := 24) rfl)
theorem z_int (T : Tx K mg) : mg "int" = none := T.fre _ (List.mem_of_getElem? (i := 25) rfl)
theorem z_isinstance (T : Tx K mg) : mg "isinstance" = none := T.fre _ (List.mem_of_getElem? (i := 26) rfl)
theorem z_len (T : Tx K mg) : mg "len" = none := T.fre _ (List.mem_of_getElem? (i := 27) rfl)
theorem z_list (T : Tx K mg) : mg "list" = none := T.fre _ (List.mem_of_getElem? (i := 28) rfl)
theorem z_min (T : Tx K mg) : mg "min" = none := T.fre _ (List.mem_of_getElem? (i := 29) rfl)
theorem z_range (T : Tx K mg) : mg "range" = none := T.fre _ (List.mem_of_getElem? (i := 30) rfl)
theorem z_repr (T : Tx K mg) : mg "repr" = none := T.fre _ (List.mem_of_getElem? (i := 31) rfl)
theorem z_set (T : Tx K mg) : mg "set" = none := T.fre _ (List.mem_of_getElem? (i := 32) rfl)
theorem z_str (T : Tx K mg) : mg "str" = none := T.fre _ (List.mem_of_getElem? (i := 33) rfl)
theorem z_tuple (T : Tx K mg) : mg "tuple" = none := T.fre _ (List.mem_of_getElem? (i := 34) rfl)
theorem g_WORDS (T : Tx K mg) : mg "WORDS" = some (.ref (He.ga K "WORDS")) := T.glo _ (List.mem_of_getElem? (i := 35) rfl)
theorem g_PLAIN_LIES (T : Tx K mg) : mg "PLAIN_LIES" = some (.ref (He.ga K "PLAIN_LIES")) := T.glo _ (List.mem_of_getElem? (i := 36) rfl)
theorem ci_MOST_CHARACTERS (T : Tx K mg) : ∃ t, mg "MOST_CHARACTERS" = some (.int 8 t) := T.cin _ _ (List.mem_of_getElem? (i := 37) rfl)
theorem ci_MOST_DEALT (T : Tx K mg) : ∃ t, mg "MOST_DEALT" = some (.int 3 t) := T.cin _ _ (List.mem_of_getElem? (i := 38) rfl)
theorem cs_LETTERS (T : Tx K mg) : ∃ t, mg "LETTERS" = some (.str "abcdefghijklmnopqrstuvwxyz" t) := T.cst _ _ (List.mem_of_getElem? (i := 39) rfl)
theorem cs_CHARACTERS (T : Tx K mg) : ∃ t, mg "CHARACTERS" = some (.str "abcdefghijklmnopqrstuvwxyz0123456789_" t) := T.cst _ _ (List.mem_of_getElem? (i := 40) rfl)
theorem cls_Table_ (T : Tx K mg) : Cls K (He.ga K "Table") := He.cls_ok (T.says.fact (List.mem_of_getElem? (i := 41) rfl))
theorem mkr_Table_ (T : Tx K mg) : Mk K (He.ga K "Table") (He.ma K (He.ga K "Table") "__init__") := He.mkr_ok (T.says.fact (List.mem_of_getElem? (i := 42) rfl))
theorem noat_Table_name (T : Tx K mg) : NoAttr K (He.ga K "Table") "name" := He.noat_ok (T.says.fact (List.mem_of_getElem? (i := 43) rfl))
theorem noat_Table_columns (T : Tx K mg) : NoAttr K (He.ga K "Table") "columns" := He.noat_ok (T.says.fact (List.mem_of_getElem? (i := 44) rfl))
theorem noat_Table_key (T : Tx K mg) : NoAttr K (He.ga K "Table") "key" := He.noat_ok (T.says.fact (List.mem_of_getElem? (i := 45) rfl))
theorem noat_Table_lies (T : Tx K mg) : NoAttr K (He.ga K "Table") "lies" := He.noat_ok (T.says.fact (List.mem_of_getElem? (i := 46) rfl))
theorem noat_Table_text (T : Tx K mg) : NoAttr K (He.ga K "Table") "text" := He.noat_ok (T.says.fact (List.mem_of_getElem? (i := 47) rfl))
theorem meth_Table_init (T : Tx K mg) : Meth K (He.ga K "Table") "__init__" (He.ma K (He.ga K "Table") "__init__") := He.meth_ok (T.says.fact (List.mem_of_getElem? (i := 48) rfl))
theorem meth_Table_eq (T : Tx K mg) : Meth K (He.ga K "Table") "__eq__" (He.ma K (He.ga K "Table") "__eq__") := He.meth_ok (T.says.fact (List.mem_of_getElem? (i := 49) rfl))
theorem meth_Table_str (T : Tx K mg) : Meth K (He.ga K "Table") "__str__" (He.ma K (He.ga K "Table") "__str__") := He.meth_ok (T.says.fact (List.mem_of_getElem? (i := 50) rfl))
theorem meth_Table_with_lie (T : Tx K mg) : Meth K (He.ga K "Table") "with_lie" (He.ma K (He.ga K "Table") "with_lie") := He.meth_ok (T.says.fact (List.mem_of_getElem? (i := 51) rfl))
theorem meth_Table_with_key (T : Tx K mg) : Meth K (He.ga K "Table") "with_key" (He.ma K (He.ga K "Table") "with_key") := He.meth_ok (T.says.fact (List.mem_of_getElem? (i := 52) rfl))
theorem exr_0 (T : Tx K mg) : (Hd.insB "Table" K && (Hd.kitsB "Table" ["NoneType", "bool", "int", "str", "list", "tuple", "dict"] K && (Hd.attB "Table" "__ne__" (.builtin "object.__ne__") K && (He.tupB K "WORDS" wordsD && (He.tupB K "PLAIN_LIES" [.adr (Hd.itAt "PLAIN_LIES" 0), .adr (Hd.itAt "PLAIN_LIES" 1), .adr (Hd.itAt "PLAIN_LIES" 2)] && (Hd.tupAtB K (Hd.itAt "PLAIN_LIES" 0 K) [.str "copied"] && (Hd.tupAtB K (Hd.itAt "PLAIN_LIES" 1 K) [.str "anyhow"] && (Hd.tupAtB K (Hd.itAt "PLAIN_LIES" 2 K) [.str "zero"] && (Hd.tupAtB K (Hd.kwAt ("Table", some "__init__") "key" K) [] && (Hd.tupAtB K (Hd.kwAt ("Table", some "__init__") "lies" K) [.str "anyhow"] && (PySem.W.readsIn K (He.ga K "Table") (.type "type") && (He.eqO (PySem.W.specialIn K (.ref (He.ga K "Table")) "__getattribute__") (some (some (.builtin "type.__getattribute__"))) && (Hd.clsIntB K "Table" "MOST_COLUMNS" 8 && true))))))))))))) = true := T.says.more
theorem ex_0 (T : Tx K mg) : Hd.insB "Table" K = true := (Bool.and_eq_true_iff.mp (exr_0 T)).1
theorem exr_1 (T : Tx K mg) : (Hd.kitsB "Table" ["NoneType", "bool", "int", "str", "list", "tuple", "dict"] K && (Hd.attB "Table" "__ne__" (.builtin "object.__ne__") K && (He.tupB K "WORDS" wordsD && (He.tupB K "PLAIN_LIES" [.adr (Hd.itAt "PLAIN_LIES" 0), .adr (Hd.itAt "PLAIN_LIES" 1), .adr (Hd.itAt "PLAIN_LIES" 2)] && (Hd.tupAtB K (Hd.itAt "PLAIN_LIES" 0 K) [.str "copied"] && (Hd.tupAtB K (Hd.itAt "PLAIN_LIES" 1 K) [.str "anyhow"] && (Hd.tupAtB K (Hd.itAt "PLAIN_LIES" 2 K) [.str "zero"] && (Hd.tupAtB K (Hd.kwAt ("Table", some "__init__") "key" K) [] && (Hd.tupAtB K (Hd.kwAt ("Table", some "__init__") "lies" K) [.str "anyhow"] && (PySem.W.readsIn K (He.ga K "Table") (.type "type") && (He.eqO (PySem.W.specialIn K (.ref (He.ga K "Table")) "__getattribute__") (some (some (.builtin "type.__getattribute__"))) && (Hd.clsIntB K "Table" "MOST_COLUMNS" 8 && true)))))))))))) = true := (Bool.and_eq_true_iff.mp (exr_0 T)).2
theorem ex_1 (T : Tx K mg) : Hd.kitsB "Table" ["NoneType", "bool", "int", "str", "list", "tuple", "dict"] K = true := (Bool.and_eq_true_iff.mp (exr_1 T)).1
theorem exr_2 (T : Tx K mg) : (Hd.attB "Table" "__ne__" (.builtin "object.__ne__") K && (He.tupB K "WORDS" wordsD && (He.tupB K "PLAIN_LIES" [.adr (Hd.itAt "PLAIN_LIES" 0), .adr (Hd.itAt "PLAIN_LIES" 1), .adr (Hd.itAt "PLAIN_LIES" 2)] && (Hd.tupAtB K (Hd.itAt "PLAIN_LIES" 0 K) [.str "copied"] && (Hd.tupAtB K (Hd.itAt "PLAIN_LIES" 1 K) [.str "anyhow"] && (Hd.tupAtB K (Hd.itAt "PLAIN_LIES" 2 K) [.str "zero"] && (Hd.tupAtB K (Hd.kwAt ("Table", some "__init__") "key" K) [] && (Hd.tupAtB K (Hd.kwAt ("Table", some "__init__") "lies" K) [.str "anyhow"] && (PySem.W.readsIn K (He.ga K "Table") (.type "type") && (He.eqO (PySem.W.specialIn K (.ref (He.ga K "Table")) "__getattribute__") (some (some (.builtin "type.__getattribute__"))) && (Hd.clsIntB K "Table" "MOST_COLUMNS" 8 && true))))))))))) = true := (Bool.and_eq_true_iff.mp (exr_1 T)).2
theorem ex_2 (T : Tx K mg) : Hd.attB "Table" "__ne__" (.builtin "object.__ne__") K = true := (Bool.and_eq_true_iff.mp (exr_2 T)).1
theorem exr_3 (T : Tx K mg) : (He.tupB K "WORDS" wordsD && (He.tupB K "PLAIN_LIES" [.adr (Hd.itAt "PLAIN_LIES" 0), .adr (Hd.itAt "PLAIN_LIES" 1), .adr (Hd.itAt "PLAIN_LIES" 2)] && (Hd.tupAtB K (Hd.itAt "PLAIN_LIES" 0 K) [.str "copied"] && (Hd.tupAtB K (Hd.itAt "PLAIN_LIES" 1 K) [.str "anyhow"] && (Hd.tupAtB K (Hd.itAt "PLAIN_LIES" 2 K) [.str "zero"] && (Hd.tupAtB K (Hd.kwAt ("Table", some "__init__") "key" K) [] && (Hd.tupAtB K (Hd.kwAt ("Table", some "__init__") "lies" K) [.str "anyhow"] && (PySem.W.readsIn K (He.ga K "Table") (.type "type") && (He.eqO (PySem.W.specialIn K (.ref (He.ga K "Table")) "__getattribute__") (some (some (.builtin "type.__getattribute__"))) && (Hd.clsIntB K "Table" "MOST_COLUMNS" 8 && true)))))))))) = true := (Bool.and_eq_true_iff.mp (exr_2 T)).2
theorem ex_3 (T : Tx K mg) : He.tupB K "WORDS" wordsD = true := (Bool.and_eq_true_iff.mp (exr_3 T)).1
theorem exr_4 (T : Tx K mg) : (He.tupB K "PLAIN_LIES" [.adr (Hd.itAt "PLAIN_LIES" 0), .adr (Hd.itAt "PLAIN_LIES" 1), .adr (Hd.itAt "PLAIN_LIES" 2)] && (Hd.tupAtB K (Hd.itAt "PLAIN_LIES" 0 K) [.str "copied"] && (Hd.tupAtB K (Hd.itAt "PLAIN_LIES" 1 K) [.str "anyhow"] && (Hd.tupAtB K (Hd.itAt "PLAIN_LIES" 2 K) [.str "zero"] && (Hd.tupAtB K (Hd.kwAt ("Table", some "__init__") "key" K) [] && (Hd.tupAtB K (Hd.kwAt ("Table", some "__init__") "lies" K) [.str "anyhow"] && (PySem.W.readsIn K (He.ga K "Table") (.type "type") && (He.eqO (PySem.W.specialIn K (.ref (He.ga K "Table")) "__getattribute__") (some (some (.builtin "type.__getattribute__"))) && (Hd.clsIntB K "Table" "MOST_COLUMNS" 8 && true))))))))) = true := (Bool.and_eq_true_iff.mp (exr_3 T)).2
theorem ex_4 (T : Tx K mg) : He.tupB K "PLAIN_LIES" [.adr (Hd.itAt "PLAIN_LIES" 0), .adr (Hd.itAt "PLAIN_LIES" 1), .adr (Hd.itAt "PLAIN_LIES" 2)] = true := (Bool.and_eq_true_iff.mp (exr_4 T)).1
theorem exr_5 (T : Tx K mg) : (Hd.tupAtB K (Hd.itAt "PLAIN_LIES" 0 K) [.str "copied"] && (Hd.tupAtB K (Hd.itAt "PLAIN_LIES" 1 K) [.str "anyhow"] && (Hd.tupAtB K (Hd.itAt "PLAIN_LIES" 2 K) [.str "zero"] && (Hd.tupAtB K (Hd.kwAt ("Table", some "__init__") "key" K) [] && (Hd.tupAtB K (Hd.kwAt ("Table", some "__init__") "lies" K) [.str "anyhow"] && (PySem.W.readsIn K (He.ga K "Table") (.type "type") && (He.eqO (PySem.W.specialIn K (.ref (He.ga K "Table")) "__getattribute__") (some (some (.builtin "type.__getattribute__"))) && (Hd.clsIntB K "Table" "MOST_COLUMNS" 8 && true)))))))) = true := (Bool.and_eq_true_iff.mp (exr_4 T)).2
theorem ex_5 (T : Tx K mg) : Hd.tupAtB K (Hd.itAt "PLAIN_LIES" 0 K) [.str "copied"] = true := (Bool.and_eq_true_iff.mp (exr_5 T)).1
theorem exr_6 (T : Tx K mg) : (Hd.tupAtB K (Hd.itAt "PLAIN_LIES" 1 K) [.str "anyhow"] && (Hd.tupAtB K (Hd.itAt "PLAIN_LIES" 2 K) [.str "zero"] && (Hd.tupAtB K (Hd.kwAt ("Table", some "__init__") "key" K) [] && (Hd.tupAtB K (Hd.kwAt ("Table", some "__init__") "lies" K) [.str "anyhow"] && (PySem.W.readsIn K (He.ga K "Table") (.type "type") && (He.eqO (PySem.W.specialIn K (.ref (He.ga K "Table")) "__getattribute__") (some (some (.builtin "type.__getattribute__"))) && (Hd.clsIntB K "Table" "MOST_COLUMNS" 8 && true))))))) = true := (Bool.and_eq_true_iff.mp (exr_5 T)).2
theorem ex_6 (T : Tx K mg) : Hd.tupAtB K (Hd.itAt "PLAIN_LIES" 1 K) [.str "anyhow"] = true := (Bool.and_eq_true_iff.mp (exr_6 T)).1
theorem exr_7 (T : Tx K mg) : (Hd.tupAtB K (Hd.itAt "PLAIN_LIES" 2 K) [.str "zero"] && (Hd.tupAtB K (Hd.kwAt ("Table", some "__init__") "key" K) [] && (Hd.tupAtB K (Hd.kwAt ("Table", some "__init__") "lies" K) [.str "anyhow"] && (PySem.W.readsIn K (He.ga K "Table") (.type "type") && (He.eqO (PySem.W.specialIn K (.ref (He.ga K "Table")) "__getattribute__") (some (some (.builtin "type.__getattribute__"))) && (Hd.clsIntB K "Table" "MOST_COLUMNS" 8 && true)))))) = true := (Bool.and_eq_true_iff.mp (exr_6 T)).2
theorem ex_7 (T : Tx K mg) : Hd.tupAtB K (Hd.itAt "PLAIN_LIES" 2 K) [.str "zero"] = true := (Bool.and_eq_true_iff.mp (exr_7 T)).1
theorem exr_8 (T : Tx K mg) : (Hd.tupAtB K (Hd.kwAt ("Table", some "__init__") "key" K) [] && (Hd.tupAtB K (Hd.kwAt ("Table", some "__init__") "lies" K) [.str "anyhow"] && (PySem.W.readsIn K (He.ga K "Table") (.type "type") && (He.eqO (PySem.W.specialIn K (.ref (He.ga K "Table")) "__getattribute__") (some (some (.builtin "type.__getattribute__"))) && (Hd.clsIntB K "Table" "MOST_COLUMNS" 8 && true))))) = true := (Bool.and_eq_true_iff.mp (exr_7 T)).2
theorem ex_8 (T : Tx K mg) : Hd.tupAtB K (Hd.kwAt ("Table", some "__init__") "key" K) [] = true := (Bool.and_eq_true_iff.mp (exr_8 T)).1
theorem exr_9 (T : Tx K mg) : (Hd.tupAtB K (Hd.kwAt ("Table", some "__init__") "lies" K) [.str "anyhow"] && (PySem.W.readsIn K (He.ga K "Table") (.type "type") && (He.eqO (PySem.W.specialIn K (.ref (He.ga K "Table")) "__getattribute__") (some (some (.builtin "type.__getattribute__"))) && (Hd.clsIntB K "Table" "MOST_COLUMNS" 8 && true)))) = true := (Bool.and_eq_true_iff.mp (exr_8 T)).2
theorem ex_9 (T : Tx K mg) : Hd.tupAtB K (Hd.kwAt ("Table", some "__init__") "lies" K) [.str "anyhow"] = true := (Bool.and_eq_true_iff.mp (exr_9 T)).1
theorem exr_10 (T : Tx K mg) : (PySem.W.readsIn K (He.ga K "Table") (.type "type") && (He.eqO (PySem.W.specialIn K (.ref (He.ga K "Table")) "__getattribute__") (some (some (.builtin "type.__getattribute__"))) && (Hd.clsIntB K "Table" "MOST_COLUMNS" 8 && true))) = true := (Bool.and_eq_true_iff.mp (exr_9 T)).2
theorem ex_10 (T : Tx K mg) : PySem.W.readsIn K (He.ga K "Table") (.type "type") = true := (Bool.and_eq_true_iff.mp (exr_10 T)).1
theorem exr_11 (T : Tx K mg) : (He.eqO (PySem.W.specialIn K (.ref (He.ga K "Table")) "__getattribute__") (some (some (.builtin "type.__getattribute__"))) && (Hd.clsIntB K "Table" "MOST_COLUMNS" 8 && true)) = true := (Bool.and_eq_true_iff.mp (exr_10 T)).2
theorem ex_11 (T : Tx K mg) : He.eqO (PySem.W.specialIn K (.ref (He.ga K "Table")) "__getattribute__") (some (some (.builtin "type.__getattribute__"))) = true := (Bool.and_eq_true_iff.mp (exr_11 T)).1
theorem exr_12 (T : Tx K mg) : (Hd.clsIntB K "Table" "MOST_COLUMNS" 8 && true) = true := (Bool.and_eq_true_iff.mp (exr_11 T)).2
theorem ex_12 (T : Tx K mg) : Hd.clsIntB K "Table" "MOST_COLUMNS" 8 = true := (Bool.and_eq_true_iff.mp (exr_12 T)).1
theorem f_is_name (T : Tx K mg) : ∃ fd, FunD K d_is_name.2.name d_is_name.2.qual d_is_name.2.params d_is_name.2.body d_is_name.2.scope (d_is_name.2.dvs K) (d_is_name.2.kws K) (d_is_name.1 K) fd := T.says.fun_ 0 rfl
theorem f_has_twice (T : Tx K mg) : ∃ fd, FunD K d_has_twice.2.name d_has_twice.2.qual d_has_twice.2.params d_has_twice.2.body d_has_twice.2.scope (d_has_twice.2.dvs K) (d_has_twice.2.kws K) (d_has_twice.1 K) fd := T.says.fun_ 1 rfl
theorem f_Table_init (T : Tx K mg) : ∃ fd, FunD K d_Table_init.2.name d_Table_init.2.qual d_Table_init.2.params d_Table_init.2.body d_Table_init.2.scope (d_Table_init.2.dvs K) (d_Table_init.2.kws K) (d_Table_init.1 K) fd := T.says.fun_ 2 rfl
theorem f_Table_with_lie (T : Tx K mg) : ∃ fd, FunD K d_Table_with_lie.2.name d_Table_with_lie.2.qual d_Table_with_lie.2.params d_Table_with_lie.2.body d_Table_with_lie.2.scope (d_Table_with_lie.2.dvs K) (d_Table_with_lie.2.kws K) (d_Table_with_lie.1 K) fd := T.says.fun_ 3 rfl
theorem f_Table_with_key (T : Tx K mg) : ∃ fd, FunD K d_Table_with_key.2.name d_Table_with_key.2.qual d_Table_with_key.2.params d_Table_with_key.2.body d_Table_with_key.2.scope (d_Table_with_key.2.dvs K) (d_Table_with_key.2.kws K) (d_Table_with_key.1 K) fd := T.says.fun_ 4 rfl
theorem f_Table_eq (T : Tx K mg) : ∃ fd, FunD K d_Table_eq.2.name d_Table_eq.2.qual d_Table_eq.2.params d_Table_eq.2.body d_Table_eq.2.scope (d_Table_eq.2.dvs K) (d_Table_eq.2.kws K) (d_Table_eq.1 K) fd := T.says.fun_ 5 rfl
theorem f_Table_str (T : Tx K mg) : ∃ fd, FunD K d_Table_str.2.name d_Table_str.2.qual d_Table_str.2.params d_Table_str.2.body d_Table_str.2.scope (d_Table_str.2.dvs K) (d_Table_str.2.kws K) (d_Table_str.1 K) fd := T.says.fun_ 6 rfl
theorem f_fault_of (T : Tx K mg) : ∃ fd, FunD K d_fault_of.2.name d_fault_of.2.qual d_fault_of.2.params d_fault_of.2.body d_fault_of.2.scope (d_fault_of.2.dvs K) (d_fault_of.2.kws K) (d_fault_of.1 K) fd := T.says.fun_ 7 rfl
theorem f_are_unlike (T : Tx K mg) : ∃ fd, FunD K d_are_unlike.2.name d_are_unlike.2.qual d_are_unlike.2.params d_are_unlike.2.body d_are_unlike.2.scope (d_are_unlike.2.dvs K) (d_are_unlike.2.kws K) (d_are_unlike.1 K) fd := T.says.fun_ 8 rfl
theorem f_is_dealt (T : Tx K mg) : ∃ fd, FunD K d_is_dealt.2.name d_is_dealt.2.qual d_is_dealt.2.params d_is_dealt.2.body d_is_dealt.2.scope (d_is_dealt.2.dvs K) (d_is_dealt.2.kws K) (d_is_dealt.1 K) fd := T.says.fun_ 9 rfl
theorem f_row_of (T : Tx K mg) : ∃ fd, FunD K d_row_of.2.name d_row_of.2.qual d_row_of.2.params d_row_of.2.body d_row_of.2.scope (d_row_of.2.dvs K) (d_row_of.2.kws K) (d_row_of.1 K) fd := T.says.fun_ 10 rfl
theorem f_Lpen (T : Tx K mg) : ∃ fd, FunD K d_Lpen.2.name d_Lpen.2.qual d_Lpen.2.params d_Lpen.2.body d_Lpen.2.scope (d_Lpen.2.dvs K) (d_Lpen.2.kws K) (d_Lpen.1 K) fd := T.says.fun_ 11 rfl
theorem f_Ldraw (T : Tx K mg) : ∃ fd, FunD K d_Ldraw.2.name d_Ldraw.2.qual d_Ldraw.2.params d_Ldraw.2.body d_Ldraw.2.scope (d_Ldraw.2.dvs K) (d_Ldraw.2.kws K) (d_Ldraw.1 K) fd := T.says.fun_ 12 rfl
theorem f_Lpick (T : Tx K mg) : ∃ fd, FunD K d_Lpick.2.name d_Lpick.2.qual d_Lpick.2.params d_Lpick.2.body d_Lpick.2.scope (d_Lpick.2.dvs K) (d_Lpick.2.kws K) (d_Lpick.1 K) fd := T.says.fun_ 13 rfl
theorem f_Lsome (T : Tx K mg) : ∃ fd, FunD K d_Lsome.2.name d_Lsome.2.qual d_Lsome.2.params d_Lsome.2.body d_Lsome.2.scope (d_Lsome.2.dvs K) (d_Lsome.2.kws K) (d_Lsome.1 K) fd := T.says.fun_ 14 rfl
theorem f_Lnames (T : Tx K mg) : ∃ fd, FunD K d_Lnames.2.name d_Lnames.2.qual d_Lnames.2.params d_Lnames.2.body d_Lnames.2.scope (d_Lnames.2.dvs K) (d_Lnames.2.kws K) (d_Lnames.1 K) fd := T.says.fun_ 15 rfl
theorem f_Llie (T : Tx K mg) : ∃ fd, FunD K d_Llie.2.name d_Llie.2.qual d_Llie.2.params d_Llie.2.body d_Llie.2.scope (d_Llie.2.dvs K) (d_Llie.2.kws K) (d_Llie.1 K) fd := T.says.fun_ 16 rfl
theorem f_Lbare (T : Tx K mg) : ∃ fd, FunD K d_Lbare.2.name d_Lbare.2.qual d_Lbare.2.params d_Lbare.2.body d_Lbare.2.scope (d_Lbare.2.dvs K) (d_Lbare.2.kws K) (d_Lbare.1 K) fd := T.says.fun_ 17 rfl
theorem f_Lmade (T : Tx K mg) : ∃ fd, FunD K d_Lmade.2.name d_Lmade.2.qual d_Lmade.2.params d_Lmade.2.body d_Lmade.2.scope (d_Lmade.2.dvs K) (d_Lmade.2.kws K) (d_Lmade.1 K) fd := T.says.fun_ 18 rfl
theorem f_Lrow_of (T : Tx K mg) : ∃ fd, FunD K d_Lrow_of.2.name d_Lrow_of.2.qual d_Lrow_of.2.params d_Lrow_of.2.body d_Lrow_of.2.scope (d_Lrow_of.2.dvs K) (d_Lrow_of.2.kws K) (d_Lrow_of.1 K) fd := T.says.fun_ 19 rfl
theorem f_Lis (T : Tx K mg) : ∃ fd, FunD K d_Lis.2.name d_Lis.2.qual d_Lis.2.params d_Lis.2.body d_Lis.2.scope (d_Lis.2.dvs K) (d_Lis.2.kws K) (d_Lis.1 K) fd := T.says.fun_ 20 rfl
theorem f_Lother (T : Tx K mg) : ∃ fd, FunD K d_Lother.2.name d_Lother.2.qual d_Lother.2.params d_Lother.2.body d_Lother.2.scope (d_Lother.2.dvs K) (d_Lother.2.kws K) (d_Lother.1 K) fd := T.says.fun_ 21 rfl
theorem f_Lkeyed (T : Tx K mg) : ∃ fd, FunD K d_Lkeyed.2.name d_Lkeyed.2.qual d_Lkeyed.2.params d_Lkeyed.2.body d_Lkeyed.2.scope (d_Lkeyed.2.dvs K) (d_Lkeyed.2.kws K) (d_Lkeyed.1 K) fd := T.says.fun_ 22 rfl
theorem f_law (T : Tx K mg) : ∃ fd, FunD K d_law.2.name d_law.2.qual d_law.2.params d_law.2.body d_law.2.scope (d_law.2.dvs K) (d_law.2.kws K) (d_law.1 K) fd := T.says.fun_ 23 rfl
end
end Pf
namespace Bs
open PySem PySem.Spec PyProof.Rows L2
variable {X : Cx}
/-! ### rules of our own -/
/-- f() by its name -/
theorem pe_c0 {k j : Nat} {x : Str} {sp : Sp} {dvs : List V} {p pos : Pos} (c : C8.Cal X.prog X.w X.K X.mg X.base k x sp dvs) (hr : Room j X.A) (hk : k ≤ j) (hg : Gl X x) (hdb : (x == ("__debug__" : Str)) = false := by decide) :
    PE X (.Call (.Name x p) [] [] pos) (fun _ H Q => sp dvs H Q C8.E0) := by
  obtain ⟨f, fd, ps, ds, F, hm, kp, b, d⟩ := c.ex
  exact pe_call0 F (hr.mono hk) hg hm kp b d C8.pass0 hdb
/-- a short text, some times -/
def rRepS : R2 := fun x y H Q => ∃ z k, x = .str z ∧ y = .int k ∧ 0 ≤ k ∧ k ≤ 1000 ∧ z.length ≤ 1000 ∧ Q (.str ⟨(List.replicate k.toNat z.cps.toList).flatten.toArray⟩) H
theorem rep_flat (n : Nat) (c : Array Nat) : (List.replicate n c).foldl (fun x y => x ++ y) #[] = (List.replicate n c.toList).flatten.toArray := by
  have h : ∀ (n : Nat) (a : Array Nat), (List.replicate n c).foldl (fun x y => x ++ y) a = a ++ (List.replicate n c.toList).flatten.toArray := by
    intro n
    induction n with
    | zero => intro a; simp
    | succ n ih =>
      intro a
      rw [List.replicate_succ, List.foldl_cons, ih, List.replicate_succ, List.flatten_cons, Array.append_assoc]
      refine congrArg (a ++ ·) ?_
      apply Array.ext'
      simp
  rw [h]
  simp
theorem op_rep_str : OpR X (binaryOp .Mult) rRepS := by
  intro pins s σ H x y v u Q I rx ry h
  obtain ⟨z, k, rfl, rfl, h0, h1, hz, q⟩ := h
  obtain ⟨t, rfl⟩ := rx
  obtain ⟨t', rfl⟩ := ry
  have fin : ∀ (c : Str), c = ⟨(List.replicate k.toNat z.cps.toList).flatten.toArray⟩ → ∀ (t : Tok) (tk : Nat), EP X pins σ Q (.str c t) { s with toks := tk } := fun c e t tk => ⟨.str c, H, I.tok _, ⟨_, rfl⟩, by rw [e]; exact q⟩
  refine P.mul_str (by simp; omega) (fun h2 _ => ?_) (fun h2 _ => ?_) ?_
  · have h3 : 0 < k := by omega
    have h4 : (9223372036854775807 : Int) / 1000 ≤ 9223372036854775807 / k := by
      apply Int.le_ediv_of_mul_le h3
      omega
    have : (2 : Int) ^ 63 - 1 = 9223372036854775807 := by decide
    rw [this]
    omega
  · have h3 : z.length * k.toNat ≤ 1000 * 1000 := Nat.mul_le_mul hz (by omega)
    show decide (_ > sizeLine) = false
    exact decide_eq_false (by have : sizeLine = 16777216 := rfl; omega)
  · split
    · rename_i h2
      have e : k = 0 := by omega
      subst e
      refine ⟨by decide, fin _ ?_ _ _⟩
      simp [Str.empty]
    · split
      · rename_i h2 h3
        refine fin z ?_ t s.toks
        simp only [Bool.or_eq_true, beq_iff_eq] at h3
        rcases h3 with h3 | h3
        · subst h3
          apply TL.ext_tl
          simp [TL.tl]
        · have e : z.cps = #[] := Array.size_eq_zero_iff.mp h3
          apply TL.ext_tl
          simp [TL.tl, e]
      · rw [rep_flat]
        refine ⟨?_, fin _ rfl _ _⟩
        have h3 : k.toNat * z.length ≤ 1000 * 1000 := Nat.mul_le_mul (by omega) hz
        have h4 : ((List.replicate k.toNat z.cps.toList).flatten.toArray).size = k.toNat * z.length := by simp [Str.length]
        show _ ≤ sizeLine
        have : sizeLine = 16777216 := rfl
        show ((List.replicate k.toNat z.cps.toList).flatten.toArray).size ≤ sizeLine
        omega
end Bs
namespace Bs
open PySem PySem.Spec PyProof.Rows L2
variable {X : Cx} {n k : Nat} {C f : Addr} {fd : FuncData} {ps : List Str}
/-! ### == and != by the class's own __eq__, both answers -/
/-- what the own == promises: D a y r says that the answer is r; the heap stays -/
def spCmp (D : Addr → V → Bool → Hp → Prop) : Sp := fun vs H Q _ => ∃ (a : Addr) (y : V) (r : Bool), vs = [.ref a, y] ∧ D a y r H ∧ Q (.bl r) H
structure OwnE (X : Cx) (n : Nat) (C : Addr) (D : Addr → V → Bool → Hp → Prop) : Prop where
  ex : ∃ (f : Addr) (fd : FuncData) (ps : List Str), FnOk X.prog X.w X.K X.mg X.base C8.CX0 n f fd ps (spCmp D) ∧ PySem.W.findIn X.K (.ref C) "__eq__" = some (some (.ref f)) ∧ PySem.W.isFn X.K (.ref f) = true ∧ Binds X.K fd ps []
  obj : PySem.W.mroIn X.K C (.type "object") = some true
  ne : PySem.W.findIn X.K (.ref C) "__ne__" = some (some (.builtin "object.__ne__"))
theorem own_call {A : Around} {pins : List (Addr × Obj)} {s : Shared} {σ : L2.St} {H : Hp} {a : Addr} {y : V} {v : Value} {r : Bool} {D : Addr → V → Bool → Hp → Prop} {E : Value → Shared → Prop} (F : FnOk X.prog X.w X.K X.mg X.base C8.CX0 n f fd ps (spCmp D)) (hb : Binds X.K fd ps [])
    (hr : Room n A) (hf : A.frames = X.A.frames) (I : Inv X pins σ H s) (ry : RelV y v) (d : D a y r H) : wpAny (model X.prog X.w) A (call (.ref f) [.ref a, v]) (fun u s' => u = .bool r ∧ Inv X pins σ H s') E s := by
  have hsp : spCmp D [.ref a, y] H (fun v H' => v = .bl r ∧ H' = H) C8.E0 := ⟨a, y, r, rfl, d, rfl, rfl⟩
  have e0 : Env0 X.prog X.w X.K X.mg X.base A X.stack s H := by
    have e := I.env0
    exact ⟨by rw [hf]; exact e.frames, e.mod, e.bs, e.bsz, e.funs, e.frf, e.hok, e.bare⟩
  have hl := F.len _ _ _ _ hsp
  have r2 : Vals [V.ref a, y] [Value.ref a, v] := .cons rfl (.cons ry .nil)
  refine wpAny_call (codeAny_mono (F.run A X.stack s H ⟨[.ref a, v], []⟩ [.ref a, v] [.ref a, y] _ C8.E0 hr e0 (by
    have := hb s [.ref a, v] I.kIn (by simpa using hl)
    simpa using this) r2 hsp) fun r s' hq => ?_)
  cases r with
  | error e => exact hq.elim
  | ok fl =>
    cases fl with
    | ret w =>
      obtain ⟨z, H', I', rz, ez, ex⟩ := I.after hq
      subst ez ex
      cases rz
      exact ⟨rfl, I'⟩
    | next => exact False.elim hq
    | brk => exact False.elim hq
    | cont => exact False.elim hq
def rEqO (K : PySem.W.Frag) (C : Addr) (D : Addr → V → Bool → Hp → Prop) (g : Bool → Bool) : R2 := fun x y H Q => ∃ (a dx : Addr) (fs : List (Str × V)) (t : Value) (r : Bool), x = .ref a ∧ H a = some (.ins C dx fs) ∧ TyX K H y t ∧ PySem.W.notFirst K C t = true ∧ D a y r H ∧ Q (.bl (g r)) H
theorem op_eqO {D : Addr → V → Bool → Hp → Prop} (O : OwnE X n C D) (hr : Room n X.A) : OpR X (compareOp .Eq) (rEqO X.K C D id) := by
  intro pins s σ H x y v u Q I rx ry h
  obtain ⟨a, dx, fs, t, r, rfl, ha, ty, nf, d, q⟩ := h
  obtain ⟨f, fd, ps, F, hs, hf, hb⟩ := O.ex
  cases rx
  obtain ⟨mA, J, _⟩ := ins_get I.hok ha
  obtain ⟨od, J, _⟩ := J.look
  obtain ⟨m, hF⟩ := I.fr
  obtain ⟨P, kx, hP, _⟩ := kit_of I ry ty
  refine PySem.W.cmp_ofEq (PySem.W.cmp_K (op := .Eq) (tb := t) hr.units0 hF I.ok.mod.kin J (kx.ty _ _ I.kIn hP) nf hs hf ?_)
  refine wpAny_mono (own_call F hb hr rfl I ry d) (fun u s' ⟨eu, I'⟩ => ?_) fun _ _ x => x
  subst eu
  exact ⟨.bl r, H, I', rfl, q⟩
theorem op_neO {D : Addr → V → Bool → Hp → Prop} (O : OwnE X n C D) (hr : Room (n + 1) X.A) : OpR X (compareOp .NotEq) (rEqO X.K C D not) := by
  intro pins s σ H x y v u Q I rx ry h
  obtain ⟨a, dx, fs, t, r, rfl, ha, ty, nf, d, q⟩ := h
  obtain ⟨f, fd, ps, F, hs, hf, hb⟩ := O.ex
  cases rx
  obtain ⟨mA, J, _⟩ := ins_get I.hok ha
  obtain ⟨od, J, _⟩ := J.look
  obtain ⟨P, kx, hP, _⟩ := kit_of I ry ty
  have K0 : X.K.In s.heap := I.kIn
  have tl : PySem.W.Looks (model X.prog X.w) s.heap (typeOf u) t := kx.ty _ _ K0 hP
  have ifb : ∀ (Q' : Option Value → Shared → Prop), (∀ s', Inv X pins σ H s' → Q' (some (.bool r)) s') → wpAny (model X.prog X.w) X.A.in1 (callSpecialIfBound? (.ref a) "__eq__" [u]) Q' X.xe s := fun Q' hq =>
    PySem.W.ifBound_K K0 J hs hf (wpAny_mono (own_call F hb hr.in1 rfl I ry d) (fun v s' ⟨e, I'⟩ => by subst e; exact hq s' I') fun _ _ x => x)
  have hu := hr.in1.units0
  have body : ∀ (Q' : Fin → Shared → Prop), (∀ s', Inv X pins σ H s' → Q' (.done (.ret (.bool (!r)))) s') → wpAny (model X.prog X.w) X.A.in1 (Builtin.«object.__ne__» ⟨[.ref a, u], []⟩) Q' X.xe s := fun Q' hq => by
    unfold Builtin.«object.__ne__»
    repeat (first | with_reducible refine wpAny_cRoomFor hu ?_ | with_reducible refine wpAny_bind (ifb _ fun s' I' => ?_) | wp_step)
    exact hq s' I'
  have ifn : ∀ (Q' : Option Value → Shared → Prop), (∀ s', Inv X pins σ H s' → Q' (some (.bool (!r))) s') → wpAny (model X.prog X.w) X.A (callSpecialIfBound? (.ref a) "__ne__" [u]) Q' X.xe s := fun Q' hq => by
    have cl : ∀ (Q2 : Value → Shared → Prop), (∀ s', Inv X pins σ H s' → Q2 (.bool (!r)) s') → wpAny (model X.prog X.w) X.A (call (.builtin "object.__ne__") [.ref a, u]) Q2 X.xe s := fun Q2 h2 =>
      wpAny_call (codeAny_call_builtin PySem.F.cmp_object.ne.plain PySem.F.cmpEntry_ne (PySem.W.check_slot PySem.F.cmpKind_ne PySem.F.cmpSplit_ne (J.type.andThen (PySem.W.looks_mroIn K0 O.obj)) (PySem.F.cmpArgs_ne _ _) (body _ fun s' I' => h2 s' I')))
    have fin : wpAny (model X.prog X.w) X.A (call (.builtin "object.__ne__") ([.ref a] ++ [u]) >>= fun v => pure (some v)) Q' X.xe s := wpAny_bind (cl _ fun s' I' => wpAny_pure (hq s' I'))
    simp only [callSpecialIfBound?, bindSpecialIfBound?]
    refine wpAny_holding (wpAny_bind (wpAny_bind (wpAny_bind (J.type.here ((PySem.W.looks_findIn K0 O.ne).here ?_)))))
    refine wpAny_bind (wpAny_askSetting (wpAny_ite ?_))
    split
    · exact wpAny_bind (wpAny_of_eq (PySem.F.cmp_object.ne.bind _) (wpAny_pure (by exact fin)))
    · exact wpAny_tryCatch (wpAny_bind (wpAny_of_eq (PySem.F.cmp_object.ne.bind _) (wpAny_pure (by exact fin))))
  have one : wpAny (model X.prog X.w) X.A (tryCompare (.ref a) "__ne__" u) (fun z s' => z = some (.bool (!r)) ∧ Inv X pins σ H s') X.xe s := by
    unfold tryCompare
    exact wpAny_bind (ifn _ fun s' I' => wpAny_pure ⟨rfl, I'⟩)
  refine PySem.W.cmp_ofNotEq ?_
  unfold richCompare
  simp only [oneThing_ref]
  refine wpAny_holding (wpAny_bind (wpAny_cRoomFor hr.units0 ?_))
  refine wpAny_bind (J.type.here (wpAny_bind (tl.here ?_)))
  split
  · rename_i z
    have e : PySem.W.subIn X.K t (.ref C) = some false := by
      rcases Bool.or_eq_true_iff.mp nf with e | e
      · rw [beq_iff_eq.mp e] at z; simp at z
      · exact beq_iff_eq.mp e
    refine wpAny_bind ((PySem.W.looks_subIn K0 e).here ?_)
    simp only [Bool.false_eq_true, if_false]
    refine wpAny_bind (wpAny_mono one (fun z s' hz => ?_) fun _ _ e => e)
    obtain ⟨rfl, I'⟩ := hz
    exact wpAny_pure ⟨.bl (!r), H, I', rfl, q⟩
  · refine wpAny_bind (wpAny_pure ?_)
    simp only [Bool.false_eq_true, if_false]
    refine wpAny_bind (wpAny_mono one (fun z s' hz => ?_) fun _ _ e => e)
    obtain ⟨rfl, I'⟩ := hz
    exact wpAny_pure ⟨.bl (!r), H, I', rfl, q⟩
end Bs
namespace Bs
open PySem PySem.Spec PyProof.Rows L2
variable {X : Cx} {n k : Nat} {C f : Addr} {fd : FuncData} {ps : List Str}
/-! ### max(ints, default=d) -/
def rMaxD (K : PySem.W.Frag) : List V → List V → Hp → VK → Prop := fun vs zs H Q => ∃ (a : Addr) (ns : List Int) (d : Int), vs = [.ref a] ∧ zs = [.int d] ∧ SqL K H a (ns.map V.int) ∧
  ∀ m : Int, (ns = [] → m = d) → (ns ≠ [] → m ∈ ns ∧ ∀ k ∈ ns, k ≤ m) → Q (.int m) H
def big (y : Int) (ys : List Int) : Int := ys.foldl (fun a z => if decide (a < z) = true then z else a) y
theorem big_ge : ∀ (ys : List Int) (y : Int), y ≤ big y ys ∧ (∀ k ∈ ys, k ≤ big y ys) ∧ (big y ys = y ∨ big y ys ∈ ys)
  | [], y => ⟨Int.le_refl y, (fun k h => by cases h), .inl rfl⟩
  | z :: r, y => by
    have e : big y (z :: r) = big (if decide (y < z) = true then z else y) r := rfl
    obtain ⟨h1, h2, h3⟩ := big_ge r (if decide (y < z) = true then z else y)
    rw [e]
    by_cases c : y < z
    · rw [if_pos (decide_eq_true c)] at h1 h2 h3 ⊢
      refine ⟨by omega, fun k hk => ?_, .inr ?_⟩
      · rcases List.mem_cons.mp hk with q | q
        · rw [q]; exact h1
        · exact h2 k q
      · rcases h3 with q | q
        · rw [q]; exact List.mem_cons_self
        · exact List.mem_cons_of_mem _ q
    · rw [if_neg (by simpa using c)] at h1 h2 h3 ⊢
      refine ⟨h1, fun k hk => ?_, ?_⟩
      · rcases List.mem_cons.mp hk with q | q
        · omega
        · exact h2 k q
      · rcases h3 with q | q
        · exact .inl q
        · exact .inr (List.mem_cons_of_mem _ q)
theorem cr_maxD (hc : X.calm = true) (hu : X.A.units + 1 < cLine) : CallRK X (.builtin "max") ["default"] (rMaxD X.K) := by
  intro pins s σ H xs zs us ws Q I r rz h
  obtain ⟨a, ns, d, rfl, rfl, hs, q⟩ := h
  obtain ⟨its, rv, hl, _⟩ := I.list hs
  obtain ⟨w', ew, rw'⟩ := vals1 rz
  subst ew
  obtain ⟨t, rfl⟩ := rw'
  rw [Vals.ref1 r]
  show wpAny _ _ (call (.builtin "max") [.ref a] [(Str.ofString "default", .int d t)]) _ _ _
  refine PySem.W.max_list_datum_default (α := Int) (xs := ns) (I.ok.hd hc) hl.isList (PySem.W.HoldAll.of_ints (by simpa using rv.ints)) (by show X.A.units + 1 + 0 < cLine; exact hu) (fun e h' tk hk => ?_) fun y ys i v h' tk e hi hv hk => ?_
  · exact ⟨.int d, H, I.kept hk, ⟨_, rfl⟩, q d (fun _ => rfl) fun z => absurd e z⟩
  · obtain ⟨t', rfl⟩ := PySem.W.int_of_holds hv
    have eb : PySem.W.maxOf y ys = big y ys := rfl
    rw [eb]
    obtain ⟨h1, h2, h3⟩ := big_ge ys y
    refine ⟨.int (big y ys), H, I.kept hk, ⟨_, rfl⟩, q _ (fun z => by rw [e] at z; cases z) fun _ => ?_⟩
    rw [e]
    refine ⟨?_, fun k hk => ?_⟩
    · rcases h3 with z | z
      · rw [z]; exact List.mem_cons_self
      · exact List.mem_cons_of_mem _ z
    · rcases List.mem_cons.mp hk with z | z
      · rw [z]; exact h1
      · exact h2 k z
/-! ### str(o) by the class's own __str__ -/
def spStr (D : Addr → Str → Hp → Prop) : Sp := fun vs H Q _ => ∃ (a : Addr) (x : Str), vs = [.ref a] ∧ D a x H ∧ Q (.str x) H
structure OwnS (X : Cx) (n : Nat) (C : Addr) (D : Addr → Str → Hp → Prop) : Prop where
  ex : ∃ (f : Addr) (fd : FuncData) (ps : List Str), FnOk X.prog X.w X.K X.mg X.base C8.CX0 n f fd ps (spStr D) ∧ PySem.W.findIn X.K (.ref C) "__str__" = some (some (.ref f)) ∧ PySem.W.isFn X.K (.ref f) = true ∧ Binds X.K fd ps []
theorem call_strO {D : Addr → Str → Hp → Prop} (O : OwnS X n C D) (hr : Room (n + 2) X.A) : CallR X (.type "str") (fun xs H Q => ∃ (a dx : Addr) (fs : List (Str × V)) (x : Str), xs = [.ref a] ∧ H a = some (.ins C dx fs) ∧ D a x H ∧ Q (.str x) H) := by
  intro pins s σ H xs us Q I r h
  obtain ⟨a, dx, fs, x, rfl, ha, d, q⟩ := h
  obtain ⟨f, fd, ps, F, hs, hf, hb⟩ := O.ex
  obtain ⟨u, rfl, ru⟩ := vals1 r
  cases ru
  obtain ⟨mA, J, _⟩ := ins_get I.hok ha
  obtain ⟨od, J, _⟩ := J.look
  have hsp : spStr D [.ref a] H (fun v H' => v = .str x ∧ H' = H) C8.E0 := ⟨a, x, rfl, d, rfl, rfl⟩
  have e0 : Env0 X.prog X.w X.K X.mg X.base X.A.in1.in1 X.stack s H := by
    have e := I.env0
    exact ⟨e.frames, e.mod, e.bs, e.bsz, e.funs, e.frf, e.hok, e.bare⟩
  have hl := F.len _ _ _ _ hsp
  have r2 : Vals [V.ref a] [Value.ref a] := .cons rfl .nil
  have hr2 : Room n X.A.in1.in1 := hr.in1.in1
  refine PySem.W.kso_call hr2.units0 I.kIn J hs hf (wpAny_call (codeAny_mono (F.run X.A.in1.in1 X.stack s H ⟨[.ref a], []⟩ [.ref a] [.ref a] _ C8.E0 hr2 e0 (by
    have := hb s [.ref a] I.kIn (by simpa using hl)
    simpa using this) r2 hsp) fun r s' hq => ?_))
  cases r with
  | error e => exact hq.elim
  | ok fl =>
    cases fl with
    | ret w =>
      obtain ⟨z, H', I', rz, ez, ex⟩ := I.after hq
      subst ez ex
      obtain ⟨t, rfl⟩ := rz
      exact ⟨.str x, _, I', ⟨t, rfl⟩, q⟩
    | next => exact False.elim hq
    | brk => exact False.elim hq
    | cont => exact False.elim hq
end Bs
namespace Bs
open PySem PySem.Spec PyProof.Rows L2
variable {X : Cx} {K : PySem.W.Frag}
/-! ### rules whose reading names the written part itself -/
theorem pe_fldK {e : Expr} {f : Str} {pos : Pos} {ta : TE} (hK : X.K = K) (he : PE X e ta) (hb : attributeBase e f X.env (eval e X.env) = eval e X.env) : PE X (.Attribute e f pos) (tFld K ta f) := by
  subst hK
  exact pe_fld he hb
theorem ix_listK (hK : X.K = K) : IxR X (rIxL K) := by subst hK; exact ix_list
theorem ix_tupK (hK : X.K = K) : IxR X (rIxT K) := by subst hK; exact ix_tup
def rLenSeq (K : PySem.W.Frag) : List V → Hp → VK → Prop := fun xs H Q => ∃ (p : Addr) (ys : List V), xs = [.ref p] ∧ (SqL K H p ys ∨ SqT K H p ys) ∧ Q (.int (ys.length : Nat)) H
theorem call_len_seqK (hK : X.K = K) : CallR X (.builtin "len") (rLenSeq K) := by subst hK; exact call_len_seq
theorem call_isiK' (hK : X.K = K) : CallR X (.builtin "isinstance") (rIsi K) := by subst hK; exact call_isi
theorem pi_listK {tg l : Expr} {tl : TE} (hK : X.K = K) (hl : PE X l tl) : PI X tg l (iList K tl) := by subst hK; exact pi_list hl
theorem pi_tupK {tg l : Expr} {tl : TE} (hK : X.K = K) (hl : PE X l tl) : PI X tg l (iTup K tl) := by subst hK; exact pi_tup hl
theorem op_in_seqK (hK : X.K = K) : OpR X (compareOp .In) (rIn K false) := by subst hK; exact op_in_seq
/-! ### calls with keywords alone -/
structure CalK (P : Program) (w : World) (K : PySem.W.Frag) (mg : Str → Option Value) (base : Heap) (k : Nat) (x : Str) (sp : Sp) (ks : List Str) (gV : List V → List V) : Prop where
  ex : ∃ (f : Addr) (fd : FuncData) (ps : List Str) (g : List Value → List Value → List Value), FnOk P w K mg base C8.CX0 k f fd ps sp ∧ mg x = some (.ref f) ∧ PySem.W.keepIn K (.ref f) = true ∧ KBn K fd ps 0 ks g (fun _ zs => gV zs)
structure MakK (P : Program) (w : World) (K : PySem.W.Frag) (mg : Str → Option Value) (base : Heap) (k : Nat) (x : Str) (C : Addr) (sp : Sp) (ks : List Str) : Prop where
  ex : ∃ (f : Addr) (fd : FuncData) (ps : List Str) (g : List Value → List Value → List Value), Mk K C f ∧ FnOk P w K mg base C8.CX0 k f fd ps sp ∧ mg x = some (.ref C) ∧ KBn K fd ps 1 ks g (fun vs zs => vs ++ zs)
section
variable {k j : Nat} {x : Str} {sp : Sp} {ks : List Str} {gV : List V → List V} {p pos : Pos} {kws : List Keyword} {tk : TA} {C : Addr}
theorem pe_k (c : CalK X.prog X.w X.K X.mg X.base k x sp ks gV) (hr : Room j X.A) (hk : k ≤ j) (hg : Gl X x) (hkw : PK X kws tk)
    (hall : (backToKw pos (keywordEach kws X.env)).all (·.1.isSome) = true := by rfl) (hks : (backToKw pos (keywordEach kws X.env)).filterMap (·.1) = ks := by rfl) (hdb : (x == ("__debug__" : Str)) = false := by decide)
    (hpl : ((backTo pos (starEach [] X.env)).any (·.1) || (backToKw pos (keywordEach kws X.env)).any (·.1.isNone)) = false := by rfl) :
    PE X (.Call (.Name x p) [] kws pos) (fun σ H Q => tk σ H fun zs H1 => zs.length = ks.length ∧ sp (gV zs) H1 Q C8.E0) := by
  obtain ⟨f, fd, ps, g, F, hm, kp, hb⟩ := c.ex
  refine ⟨fun pins s σ H Q I h => ?_⟩
  refine wpAny_Call_Name_kw (ld_glob I hg hm ?_ hdb)
  refine PySem.W.callWith_KW0 (h₀ := X.base) I.ok.mod.kin kp hall ?_ hpl
  refine thn (hkw.run pos pins s σ H _ I h) fun ws s2 ⟨zs, H2, I2, rz, l2, q2⟩ => ⟨I2.kIn, ?_⟩
  rw [hks]
  exact run_fnN (us := []) (vs := []) F (hr.mono hk) hb C8.pass0 I2 .nil rz rfl l2 q2
theorem pe_mkk (c : MakK X.prog X.w X.K X.mg X.base k x C sp ks) (hr : Room j X.A) (hk : k + 1 ≤ j) (hg : Gl X x) (hkw : PK X kws tk)
    (hall : (backToKw pos (keywordEach kws X.env)).all (·.1.isSome) = true := by rfl) (hks : (backToKw pos (keywordEach kws X.env)).filterMap (·.1) = ks := by rfl) (hdb : (x == ("__debug__" : Str)) = false := by decide)
    (hpl : ((backTo pos (starEach [] X.env)).any (·.1) || (backToKw pos (keywordEach kws X.env)).any (·.1.isNone)) = false := by rfl) :
    PE X (.Call (.Name x p) [] kws pos) (tMakeK C 0 ks.length sp (fun vs zs => vs ++ zs) C8.E0 tNil tk) := by
  obtain ⟨f, fd, ps, g, M, F, hm, hb⟩ := c.ex
  exact pe_makeK0 M F (hr.mono hk) hg hm hb C8.pass0 hkw hall hks hdb hpl
end
end Bs
namespace Bs
open PySem PySem.Spec PyProof.Rows L2
/-! ### zip(list, tuple), zip(list, list, list) -/
section mk
variable {prog : Program} {w : World} {A : Around} {E : Value → Shared → Prop} {s : Shared}
abbrev itO (T : String) (l : Addr) : Obj := { cls := .type T, data := .fields #[.ref l, .int 0 0] }
abbrev tuO (vs : Array Value) : Obj := { cls := .type "tuple", data := .seq vs }
abbrev ziO (a b : Addr) : Obj := { cls := .type "zip", data := .fields #[.none, .bool false, .bool false, .ref a, .ref b] }
abbrev zm2 (h : Heap) (l t : Addr) : Heap := (h.push (itO "list_iterator" l)).push (itO "tuple_iterator" t)
abbrev zm3 (h : Heap) (l t : Addr) : Heap := (zm2 h l t).push (tuO #[.ref h.objs.size, .ref (h.push (itO "list_iterator" l)).objs.size])
abbrev zm4 (h : Heap) (l t : Addr) : Heap := (zm3 h l t).push (tuO #[.none, .none])
abbrev zm5 (h : Heap) (l t : Addr) : Heap := (zm4 h l t).push (ziO (zm2 h l t).objs.size (zm3 h l t).objs.size)
theorem meets_zm (l t : Addr) (xs ys : Array Value) : Meets (Builtin.«zip.__new__» ⟨[.type "zip", .ref l, .ref t], []⟩) (fun _ R s => s.heap.IsList l xs ∧ s.heap.IsTuple t ys ∧ R (.ok (.ret (.ref (zm4 s.heap l t).objs.size))) { s with heap := zm5 s.heap l t }) :=
  .of_wp fun prog w A R s ⟨hl, ht, h⟩ => by
    obtain ⟨hp, g, d, tk, os⟩ := s
    have hsub := sub_zip
    have a1 : Heap.IsList (Shared.heap ⟨hp, g, d, tk, os⟩) l xs := hl
    have a2 : Heap.IsTuple (Shared.heap ⟨hp.push (itO "list_iterator" l), g, d, tk, os⟩) t ys := Heap.IsTuple.push ht _
    wp_walk using wpAny_pyIter_list a1, wpAny_pyIter_tuple a2
    exact ⟨_, rfl, h⟩
theorem call_zm {l t : Addr} {xs ys : Array Value} {Q : Value → Shared → Prop} (hl : s.heap.IsList l xs) (ht : s.heap.IsTuple t ys)
    (h : ∀ h' : Heap, IsZip h' (s.heap.objs.size + 4) (s.heap.objs.size + 2) (s.heap.objs.size + 3) .none → IsTupOf2 h' (s.heap.objs.size + 2) (.ref s.heap.objs.size) (.ref (s.heap.objs.size + 1)) → IsTupOf2 h' (s.heap.objs.size + 3) .none .none →
      h'.IsListIter s.heap.objs.size l 0 → h'.IsTupleIter (s.heap.objs.size + 1) t 0 → (∀ c o, s.heap.get? c = some o → h'.get? c = some o) → Q (.ref (s.heap.objs.size + 4)) { s with heap := h' }) : wpAny (model prog w) A (call (.type "zip") [.ref l, .ref t]) Q E s := by
  refine callType_new F.called_zip (by decide) (F.typeCall_zip_2 _ _) (F.newCall_zip_2 _ _) (fun obj => F.args_object_init_3 obj _ _) F.entry_zip_new (meets_zm l t xs ys) ⟨hl, ht, ?_⟩
  have e1 : (s.heap.push (itO "list_iterator" l)).objs.size = s.heap.objs.size + 1 := Heap.size_push ..
  have e2 : (zm2 s.heap l t).objs.size = s.heap.objs.size + 2 := by rw [Heap.size_push, e1]
  have e3 : (zm3 s.heap l t).objs.size = s.heap.objs.size + 3 := by rw [Heap.size_push, e2]
  have e4 : (zm4 s.heap l t).objs.size = s.heap.objs.size + 4 := by rw [Heap.size_push, e3]
  have g5 : (zm5 s.heap l t).get? (zm4 s.heap l t).objs.size = some _ := Heap.get?_push_size _ rfl
  have g4 : (zm5 s.heap l t).get? (zm3 s.heap l t).objs.size = some _ := Heap.get?_push_of_some _ (Heap.get?_push_size _ rfl)
  have g3 : (zm5 s.heap l t).get? (zm2 s.heap l t).objs.size = some _ := Heap.get?_push_of_some _ (Heap.get?_push_of_some _ (Heap.get?_push_size _ rfl))
  have g2 : (zm5 s.heap l t).get? (s.heap.push (itO "list_iterator" l)).objs.size = some _ := Heap.get?_push_of_some _ (Heap.get?_push_of_some _ (Heap.get?_push_of_some _ (Heap.get?_push_size _ rfl)))
  have g1 : (zm5 s.heap l t).get? s.heap.objs.size = some _ := Heap.get?_push_of_some _ (Heap.get?_push_of_some _ (Heap.get?_push_of_some _ (Heap.get?_push_of_some _ (Heap.get?_push_size _ rfl))))
  rw [e4] at g5
  rw [e3] at g4
  rw [e2] at g3
  rw [e1] at g2
  show _ ∧ _
  rw [e4]
  refine ⟨⟨_, g5, rfl⟩, h _ ?_ ?_ g4 ⟨_, g1, rfl, rfl⟩ ⟨_, g2, rfl, rfl⟩ fun c o x => Heap.get?_push_of_some _ (Heap.get?_push_of_some _ (Heap.get?_push_of_some _ (Heap.get?_push_of_some _ (Heap.get?_push_of_some _ x))))⟩
  · rw [e2, e3] at g5; exact g5
  · rw [e1] at g3; exact g3
theorem typeCall_z3 (a b c : Value) : checkTypeCall "zip" ⟨[a, b, c], []⟩ = pure () := by kernel_rfl
theorem newCall_z3 (a b c : Value) : checkBuiltinCall "zip.__new__" ⟨[.type "zip", a, b, c], []⟩ = pure () := by kernel_rfl
theorem argsInit4 (a b c d : Value) : argsOk "object.__init__" ⟨[a, b, c, d], []⟩ := by
  unfold argsOk
  rw [signature?_of (id := "object.__init__") (n := ['_', '_', 't', 'i', 'n', 'i', '_', '_']) (o := ['t', 'c', 'e', 'j', 'b', 'o']) (by kernel_rfl) F.owner_object]
  kernel_rfl
abbrev zt1 (h : Heap) (a : Addr) : Heap := h.push (itO "list_iterator" a)
abbrev zt2 (h : Heap) (a b : Addr) : Heap := (zt1 h a).push (itO "list_iterator" b)
abbrev zt3 (h : Heap) (a b c : Addr) : Heap := (zt2 h a b).push (itO "list_iterator" c)
abbrev zt4 (h : Heap) (a b c : Addr) : Heap := (zt3 h a b c).push (tuO #[.ref h.objs.size, .ref (zt1 h a).objs.size, .ref (zt2 h a b).objs.size])
abbrev zt5 (h : Heap) (a b c : Addr) : Heap := (zt4 h a b c).push (tuO #[.none, .none, .none])
abbrev zt6 (h : Heap) (a b c : Addr) : Heap := (zt5 h a b c).push (ziO (zt3 h a b c).objs.size (zt4 h a b c).objs.size)
theorem meets_zt (a b c : Addr) (xs ys zs : Array Value) : Meets (Builtin.«zip.__new__» ⟨[.type "zip", .ref a, .ref b, .ref c], []⟩) (fun _ R s => s.heap.IsList a xs ∧ s.heap.IsList b ys ∧ s.heap.IsList c zs ∧ R (.ok (.ret (.ref (zt5 s.heap a b c).objs.size))) { s with heap := zt6 s.heap a b c }) :=
  .of_wp fun prog w A R s ⟨ha, hb, hc, h⟩ => by
    obtain ⟨hp, g, d, tk, os⟩ := s
    have hsub := sub_zip
    have a1 : Heap.IsList (Shared.heap ⟨hp, g, d, tk, os⟩) a xs := ha
    have a2 : Heap.IsList (Shared.heap ⟨zt1 hp a, g, d, tk, os⟩) b ys := Heap.IsList.push hb _
    have a3 : Heap.IsList (Shared.heap ⟨zt2 hp a b, g, d, tk, os⟩) c zs := Heap.IsList.push (Heap.IsList.push hc _) _
    wp_walk using wpAny_pyIter_list a1, wpAny_pyIter_list a2, wpAny_pyIter_list a3
    exact ⟨_, rfl, h⟩
theorem call_zt {a b c : Addr} {xs ys zs : Array Value} {Q : Value → Shared → Prop} (ha : s.heap.IsList a xs) (hb : s.heap.IsList b ys) (hc : s.heap.IsList c zs)
    (h : ∀ h' : Heap, IsZip h' (s.heap.objs.size + 5) (s.heap.objs.size + 3) (s.heap.objs.size + 4) .none → IsTupOf3 h' (s.heap.objs.size + 3) (.ref s.heap.objs.size) (.ref (s.heap.objs.size + 1)) (.ref (s.heap.objs.size + 2)) → IsTupOf3 h' (s.heap.objs.size + 4) .none .none .none →
      h'.IsListIter s.heap.objs.size a 0 → h'.IsListIter (s.heap.objs.size + 1) b 0 → h'.IsListIter (s.heap.objs.size + 2) c 0 → (∀ c o, s.heap.get? c = some o → h'.get? c = some o) → Q (.ref (s.heap.objs.size + 5)) { s with heap := h' }) : wpAny (model prog w) A (call (.type "zip") [.ref a, .ref b, .ref c]) Q E s := by
  refine callType_new F.called_zip (by decide) (typeCall_z3 _ _ _) (newCall_z3 _ _ _) (fun obj => argsInit4 obj _ _ _) F.entry_zip_new (meets_zt a b c xs ys zs) ⟨ha, hb, hc, ?_⟩
  have e1 : (zt1 s.heap a).objs.size = s.heap.objs.size + 1 := Heap.size_push ..
  have e2 : (zt2 s.heap a b).objs.size = s.heap.objs.size + 2 := by rw [Heap.size_push, e1]
  have e3 : (zt3 s.heap a b c).objs.size = s.heap.objs.size + 3 := by rw [Heap.size_push, e2]
  have e4 : (zt4 s.heap a b c).objs.size = s.heap.objs.size + 4 := by rw [Heap.size_push, e3]
  have e5 : (zt5 s.heap a b c).objs.size = s.heap.objs.size + 5 := by rw [Heap.size_push, e4]
  have g6 : (zt6 s.heap a b c).get? (zt5 s.heap a b c).objs.size = some _ := Heap.get?_push_size _ rfl
  have g5 : (zt6 s.heap a b c).get? (zt4 s.heap a b c).objs.size = some _ := Heap.get?_push_of_some _ (Heap.get?_push_size _ rfl)
  have g4 : (zt6 s.heap a b c).get? (zt3 s.heap a b c).objs.size = some _ := Heap.get?_push_of_some _ (Heap.get?_push_of_some _ (Heap.get?_push_size _ rfl))
  have g3 : (zt6 s.heap a b c).get? (zt2 s.heap a b).objs.size = some _ := Heap.get?_push_of_some _ (Heap.get?_push_of_some _ (Heap.get?_push_of_some _ (Heap.get?_push_size _ rfl)))
  have g2 : (zt6 s.heap a b c).get? (zt1 s.heap a).objs.size = some _ := Heap.get?_push_of_some _ (Heap.get?_push_of_some _ (Heap.get?_push_of_some _ (Heap.get?_push_of_some _ (Heap.get?_push_size _ rfl))))
  have g1 : (zt6 s.heap a b c).get? s.heap.objs.size = some _ := Heap.get?_push_of_some _ (Heap.get?_push_of_some _ (Heap.get?_push_of_some _ (Heap.get?_push_of_some _ (Heap.get?_push_of_some _ (Heap.get?_push_size _ rfl)))))
  rw [e5] at g6
  rw [e4] at g5
  rw [e3] at g4
  rw [e2] at g3
  rw [e1] at g2
  show _ ∧ _
  rw [e5]
  refine ⟨⟨_, g6, rfl⟩, h _ ?_ ?_ g5 ⟨_, g1, rfl, rfl⟩ ⟨_, g2, rfl, rfl⟩ ⟨_, g3, rfl, rfl⟩ fun c o x => Heap.get?_push_of_some _ (Heap.get?_push_of_some _ (Heap.get?_push_of_some _ (Heap.get?_push_of_some _ (Heap.get?_push_of_some _ (Heap.get?_push_of_some _ x)))))⟩
  · rw [e3, e4] at g6; exact g6
  · rw [e1, e2] at g4; exact g4
end mk
end Bs
namespace Bs
open PySem PySem.Spec PyProof.Rows L2
def ItM (K : PySem.W.Frag) (a b : Addr) : It :=
  ⟨fun i H => ∃ (xs ys : List V) (x y : V), SqL K H a xs ∧ SqT K H b ys ∧ xs[i]? = some x ∧ ys[i]? = some y,
    fun i H v H' => ∃ (T : Addr) (x y : V), v = .ref T ∧ H T = none ∧ H' = upd H T (.tup [x, y]) ∧ (∀ xs, SqL K H a xs → xs[i]? = some x) ∧ ∀ ys, SqT K H b ys → ys[i]? = some y,
    fun i H => ∃ xs ys : List V, SqL K H a xs ∧ SqT K H b ys ∧ i ≤ xs.length ∧ i ≤ ys.length ∧ (i = xs.length ∨ i = ys.length)⟩
theorem turn_m {P : Program} {w : World} {K : PySem.W.Frag} {elts : List Expr} {kk : Nat} {tpos : Pos} {a b z TI TO i1 i2 : Addr} (D : ZipSep2 z TI TO i1 i2 [i1, a] [i2, b]) (na : a ≠ i1) (nb : b ≠ i2) :
    Turn P w K (.Tuple elts kk tpos) (ItM K a b) [z, TI, TO, i1, i2] z (fun i h => IsZip h z TI TO .none ∧ IsTupOf2 h TI (.ref i1) (.ref i2) ∧ (∃ x y, IsTupOf2 h TO x y) ∧ h.IsListIter i1 a i ∧ h.IsTupleIter i2 b i) where
  mem := List.mem_cons_self
  obj := fun i h st c hc => by
    obtain ⟨hz, hTI, ⟨x, y, hTO⟩, ⟨o1, e1, _, d1⟩, ⟨o2, e2, _, d2⟩⟩ := st
    simp only [List.mem_cons, List.mem_nil_iff, or_false] at hc
    rcases hc with q | q | q | q | q
    · subst q; exact ⟨_, hz, by intro v e; cases e⟩
    · subst q; exact ⟨_, hTI, by intro v e; cases e⟩
    · subst q; exact ⟨_, hTO, by intro v e; cases e⟩
    · exact ⟨o1, q ▸ e1, fun v q => by rw [d1] at q; cases q⟩
    · exact ⟨o2, q ▸ e2, fun v q => by rw [d2] at q; cases q⟩
  keep := fun i h h' ⟨hz, hTI, ⟨x, y, hTO⟩, h1, h2⟩ k => ⟨k z (by simp) _ hz, k TI (by simp) _ hTI, ⟨x, y, k TO (by simp) _ hTO⟩, h1.at fun o q => k i1 (by simp) o q, h2.at fun o q => k i2 (by simp) o q⟩
  item := by
    intro X hP hw hK hc i pins s σ H E I hf ⟨hz, hTI, ⟨x0, y0, hTO⟩, h1, h2⟩ ⟨xs, ys, x, y, hqx, hqy, hx, hy⟩
    subst hP hw hK
    obtain ⟨its, rv, p, _⟩ := I.list hqx
    obtain ⟨its2, rv2, p2, _⟩ := I.tuple hqy
    obtain ⟨u, hu, ru⟩ := rv.get hx
    obtain ⟨u2, hu2, ru2⟩ := rv2.get hy
    have hh := I.ok.hd hc
    have zl : z < s.heap.objs.size := Heap.lt_size hz
    have l1 := (List.getElem?_eq_some_iff.mp hu).1
    have l2 := (List.getElem?_eq_some_iff.mp hu2).1
    refine wpAny_pyNext_zipD2_item (i := i) D (Draws.list (A := X.A.in1) hh i1 a na its.toArray) (Draws.tuple (A := X.A.in1) hh i2 b nb its2.toArray) hz hTI hTO ⟨h1, p.isList⟩ ⟨h2, p2⟩ (by rw [List.size_toArray]; exact l1) (by rw [List.size_toArray]; exact l2) fun x1 x2 h' tk q1 q2 z' TO' s1' s2' hT _ hk => ?_
    have e1 : x1 = u := by rw [← Array.getElem?_toList] at q1; exact Option.some.inj (q1.symm.trans hu)
    have e2 : x2 = u2 := by rw [← Array.getElem?_toList] at q2; exact Option.some.inj (q2.symm.trans hu2)
    subst e1 e2
    refine ⟨_, rfl, wpAny_letOwnedTupleGo_zip (s := { s with heap := h', toks := tk }) z' fun h'' z'' sb => ?_⟩
    have hT2 : h''.get? s.heap.objs.size = some { cls := .type "tuple", data := .seq #[x1, x2] } := (sb.2 _ (Nat.ne_of_gt zl)).trans hT
    have new : ObjOk X.prog X.w (upd H s.heap.objs.size (.tup [x, y])) h'' s.heap.objs.size (.tup [x, y]) := ⟨by show 2 ≤ sizeLine; decide, [x1, x2], .cons ru (.cons ru2 .nil), ⟨_, hT2, rfl, _, rfl⟩⟩
    have I1 : Inv X pins σ (upd H s.heap.objs.size (.tup [x, y])) { s with heap := h'', toks := tk } :=
      I.turnedNew (t' := tk) (ch := [z, TI, TO, i1, i2]) (fun c o hb q => by
        simp only [List.mem_cons, List.mem_nil_iff, or_false, not_or] at hb
        exact (sb.2 c hb.1).trans (hk c o hb.1 hb.2.2.1 hb.2.2.2.1 hb.2.2.2.2 q)) hf (Nat.le_refl _) new
    refine ⟨.ref s.heap.objs.size, _, I1, rfl, ⟨_, x, y, rfl, I.hok.fresh (Nat.le_refl _), rfl, fun l hl => by rw [I.list_inj hl hqx]; exact hx, fun l hl => by rw [I.tuple_inj hl hqy]; exact hy⟩, ⟨z'', ?_, ⟨x1, x2, ?_⟩, ?_, ?_⟩, fun c hcm => ?_⟩
    · exact (sb.2 _ D.TIz).trans (hk _ _ D.TIz D.TITO D.TIi1 D.TIi2 hTI)
    · exact (sb.2 _ D.TOz).trans TO'
    · exact s1'.1.at fun o q => (sb.2 _ D.zi1.symm).trans q
    · exact s2'.1.at fun o q => (sb.2 _ D.zi2.symm).trans q
    · have hlt : c < s.heap.objs.size := by
        simp only [List.mem_cons, List.mem_nil_iff, or_false] at hcm
        rcases hcm with q | q | q | q | q
        · exact q ▸ zl
        · exact q ▸ Heap.lt_size hTI
        · exact q ▸ Heap.lt_size hTO
        · obtain ⟨_, e1, _⟩ := h1
          exact q ▸ Heap.lt_size e1
        · obtain ⟨_, e2, _⟩ := h2
          exact q ▸ Heap.lt_size e2
      rw [upd_ne (Nat.ne_of_lt hlt)]
      exact (hf c hcm).1
  done := by
    intro X hP hw hK hc i pins s σ H E I hf ⟨hz, hTI, ⟨x0, y0, hTO⟩, h1, h2⟩ ⟨xs, ys, hqx, hqy, m1, m2, hend⟩
    subst hP hw hK
    obtain ⟨its, rv, p, _⟩ := I.list hqx
    obtain ⟨its2, rv2, p2, _⟩ := I.tuple hqy
    have hh := I.ok.hd hc
    have l1 := rv.length
    have l2 := rv2.length
    exact wpAny_pyNext_zipD2_end (i := i) D (Draws.list (A := X.A.in1) hh i1 a na its.toArray) (Draws.tuple (A := X.A.in1) hh i2 b nb its2.toArray) hz hTI hTO ⟨h1, p.isList⟩ ⟨h2, p2⟩ (by rw [List.size_toArray]; omega) (by rw [List.size_toArray]; omega) (by rw [List.size_toArray, List.size_toArray]; omega)
      fun h' tk hk => ⟨rfl, I.turnedL (t' := tk) (ch := [z, TI, TO, i1, i2]) (fun c o hb q => by
        simp only [List.mem_cons, List.mem_nil_iff, or_false, not_or] at hb
        exact hk c o hb.1 hb.2.2.1 hb.2.2.2.1 hb.2.2.2.2 q) hf⟩
  self := fun A i s Q E st h => wpAny_pyIter_zip st.1 h
theorem pg_tupK {X : Cx} {K : PySem.W.Frag} {es : List Expr} {k n : Nat} {pos : Pos} {t : TGs} (hK : X.K = K) (hc : X.calm = true) (h : PGs X es t)
    (hn : (assignEach es X.env).length = n := by rfl) (hst : (assignEach es X.env).findIdx? (·.1) = none := by rfl) : PG X (.Tuple es k pos) (gTup K n t) := by
  subst hK
  exact pg_tup hc h hn hst
theorem nin2 {x a b : Nat} (h1 : x ≠ a) (h2 : x ≠ b) : x ∉ [a, b] := by
  simp only [List.mem_cons, List.mem_nil_iff, or_false, not_or]
  exact ⟨h1, h2⟩
theorem sep_m (I a b : Nat) (h1 : a < I) (h2 : b < I) : ZipSep2 (I + 4) (I + 2) (I + 3) I (I + 1) [I, a] [I + 1, b] where
  TIz := Nat.ne_of_lt (by omega)
  TOz := Nat.ne_of_lt (by omega)
  TITO := Nat.ne_of_lt (by omega)
  TIi1 := Nat.ne_of_gt (by omega)
  mem1 := List.mem_cons_self
  zf1 := nin2 (by omega) (by omega)
  Tf1 := nin2 (by omega) (by omega)
  TIi2 := Nat.ne_of_gt (by omega)
  mem2 := List.mem_cons_self
  zf2 := nin2 (by omega) (by omega)
  Tf2 := nin2 (by omega) (by omega)
  sep1_2 := nin2 (by omega) (by omega)
  sep2_1 := nin2 (by omega) (by omega)
theorem sep_t (I a b c : Nat) (h1 : a < I) (h2 : b < I) (h3 : c < I) : ZipSep3 (I + 5) (I + 3) (I + 4) I (I + 1) (I + 2) [I, a] [I + 1, b] [I + 2, c] := by
  constructor <;> first | exact List.mem_cons_self | exact nin2 (by omega) (by omega) | exact Nat.ne_of_lt (by omega) | exact Nat.ne_of_gt (by omega)
theorem ne_add (I b k : Nat) (h : b < I) : b ≠ I + k := by omega
theorem le_one {I c : Nat} (h : c = I + 4 ∨ c = I + 2 ∨ c = I + 3 ∨ c = I ∨ c = I + 1) : I ≤ c := by omega
theorem le_two {I c : Nat} (h : c = I + 5 ∨ c = I + 3 ∨ c = I + 4 ∨ c = I ∨ c = I + 1 ∨ c = I + 2) : I ≤ c := by omega
def iZipM (K : PySem.W.Frag) (ta : TA) : TI := fun σ H R => ta σ H fun vs H1 => ∃ (a b : Addr) (xs ys : List V), vs = [.ref a, .ref b] ∧ SqL K H1 a xs ∧ SqT K H1 b ys ∧ R (ItM K a b) H1
theorem pi_zipM {X : Cx} {K : PySem.W.Frag} {e e2 : Expr} {ta : TA} {p pos tpos : Pos} {elts : List Expr} {kk : Nat} (hK : X.K = K) (hg : Gl X "zip") (hm : X.mg "zip" = none) (ha : PA X [e, e2] ta)
    (hs : starEach [e, e2] X.env = (false, eval e X.env) :: starEach [e2] X.env := by rfl) (hpl : (backTo pos (starEach [e2] X.env)).any (·.1) = false := by rfl) :
    PI X (.Tuple elts kk tpos) (.Call (.Name "zip" p) [e, e2] [] pos) (iZipM K ta) := by
  subst hK
  refine ⟨fun pins s σ H R I h => ?_⟩
  refine Call_ (ld_blt I hg hm PyProof.Rows.boot_zip (PyProof.Rows.callWith_type1 (thn (ha.run pos pins s σ H _ I h) fun us s1 ⟨vs, H1, I1, r1, a, b, xs, ys, ex, hqx, hqy, q⟩ => ?_) hs hpl))
  subst ex
  obtain ⟨u1, u2, rfl, r, r'⟩ := vals2 r1
  cases r
  cases r'
  obtain ⟨its, rv, p1, _⟩ := I1.list hqx
  obtain ⟨its2, rv2, p2, _⟩ := I1.tuple hqy
  have la : a < s1.heap.objs.size := p1.lt
  have lb : b < s1.heap.objs.size := by obtain ⟨o, e, _⟩ := p2; exact Heap.lt_size e
  refine call_zm p1.isList p2 fun h' hz hTI hTO h1 h2 hk => wpAny_pyIter_zip hz ?_
  have I2 : Inv X pins σ H1 { s1 with heap := h' } := I1.kept (t' := s1.toks) hk
  have D := sep_m s1.heap.objs.size a b la lb
  refine ⟨s1.heap.objs.size + 4, [s1.heap.objs.size + 4, s1.heap.objs.size + 2, s1.heap.objs.size + 3, s1.heap.objs.size, s1.heap.objs.size + 1], _, _, H1, rfl, I2, turn_m D (Nat.ne_of_lt la) (ne_add _ _ 1 lb), ⟨hz, hTI, ⟨_, _, hTO⟩, h1, h2⟩, fun c hcm => ?_, q⟩
  have hle : s1.heap.objs.size ≤ c := by
    simp only [List.mem_cons, List.mem_nil_iff, or_false] at hcm
    exact le_one hcm
  exact I1.fpOk hle (I1.hok.fresh hle)
/-- a comprehension over such a zip, of one length -/
theorem lc_zipM {K : PySem.W.Frag} {a b : Addr} {xs ys : List V} {g : TG} {tt : TT} {te : TE} {vs : List Nat} {σ : L2.St} {H1 : Hp} {D : Addr} {Qd : Hp → Prop} (hl : xs.length = ys.length) (Pv : Nat → Hp → Prop) (h0 : Pv 0 (upd H1 D (.lst [])))
    (hq : ∀ i H, Pv i H → SqL K H a xs ∧ SqT K H b ys)
    (hs : ∀ i x y T H, xs[i]? = some x → ys[i]? = some y → Pv i H → H T = none → g (.ref T) (wipe σ vs) (upd H T (.tup [x, y])) fun σ2 H2 => wipe σ2 vs = wipe σ vs ∧ tt σ2 H2 fun b H3 =>
      if b = true then te σ2 H3 fun y H4 => ∃ acc, H4 D = some (.lst acc) ∧ acc.length < sizeLine ∧ Pv (i + 1) (upd H4 D (.lst (acc ++ [y]))) else Pv (i + 1) H3) (hd : ∀ H, Pv xs.length H → Qd H) :
    ∃ W : Nat → Nat → Hp → Prop, (∃ m, W 0 m (upd H1 D (.lst []))) ∧ ∀ i m H, W i m H →
      ((ItM K a b).stop i H ∧ Qd H) ∨ ((ItM K a b).go i H ∧ ∃ Nx : Hp → Prop, (∀ H', Nx H' → ∃ m', m' < m ∧ W (i + 1) m' H') ∧ ∀ x H', (ItM K a b).yld i H x H' → g x (wipe σ vs) H' fun σ2 H2 => wipe σ2 vs = wipe σ vs ∧ tt σ2 H2 fun b H3 =>
        if b = true then te σ2 H3 fun y H4 => ∃ acc, H4 D = some (.lst acc) ∧ acc.length < sizeLine ∧ Nx (upd H4 D (.lst (acc ++ [y]))) else Nx H3) := by
  refine ⟨fun i m H => Pv i H ∧ i + m = xs.length, ⟨xs.length, h0, Nat.zero_add _⟩, fun i m H ⟨hp, em⟩ => ?_⟩
  obtain ⟨qx, qy⟩ := hq i H hp
  cases m with
  | zero =>
    have e : i = xs.length := em
    subst e
    exact .inl ⟨⟨xs, ys, qx, qy, Nat.le_refl _, by omega, .inl rfl⟩, hd H hp⟩
  | succ m =>
    have li : i < xs.length := by omega
    have hx := List.getElem?_eq_getElem li
    have hy := List.getElem?_eq_getElem (l := ys) (i := i) (by omega)
    refine .inr ⟨⟨xs, ys, _, _, qx, qy, hx, hy⟩, Pv (i + 1), fun H' h' => ⟨m, Nat.lt_succ_self m, h', by omega⟩, ?_⟩
    rintro _ _ ⟨T, x, y, rfl, hT, rfl, ex, ey⟩
    exact hs i x y T H (ex xs qx) (ey ys qy) hp hT
/-- a comprehension over zip of two lists of one length -/
theorem lc_zipL {K : PySem.W.Frag} {a b : Addr} {xs ys : List V} {g : TG} {tt : TT} {te : TE} {vs : List Nat} {σ : L2.St} {H1 : Hp} {D : Addr} {Qd : Hp → Prop} (hl : xs.length = ys.length) (Pv : Nat → Hp → Prop) (h0 : Pv 0 (upd H1 D (.lst [])))
    (hq : ∀ i H, Pv i H → SqL K H a xs ∧ SqL K H b ys)
    (hs : ∀ i x y T H, xs[i]? = some x → ys[i]? = some y → Pv i H → H T = none → g (.ref T) (wipe σ vs) (upd H T (.tup [x, y])) fun σ2 H2 => wipe σ2 vs = wipe σ vs ∧ tt σ2 H2 fun b H3 =>
      if b = true then te σ2 H3 fun y H4 => ∃ acc, H4 D = some (.lst acc) ∧ acc.length < sizeLine ∧ Pv (i + 1) (upd H4 D (.lst (acc ++ [y]))) else Pv (i + 1) H3) (hd : ∀ H, Pv xs.length H → Qd H) :
    ∃ W : Nat → Nat → Hp → Prop, (∃ m, W 0 m (upd H1 D (.lst []))) ∧ ∀ i m H, W i m H →
      ((Itz K a b).stop i H ∧ Qd H) ∨ ((Itz K a b).go i H ∧ ∃ Nx : Hp → Prop, (∀ H', Nx H' → ∃ m', m' < m ∧ W (i + 1) m' H') ∧ ∀ x H', (Itz K a b).yld i H x H' → g x (wipe σ vs) H' fun σ2 H2 => wipe σ2 vs = wipe σ vs ∧ tt σ2 H2 fun b H3 =>
        if b = true then te σ2 H3 fun y H4 => ∃ acc, H4 D = some (.lst acc) ∧ acc.length < sizeLine ∧ Nx (upd H4 D (.lst (acc ++ [y]))) else Nx H3) := by
  refine ⟨fun i m H => Pv i H ∧ i + m = xs.length, ⟨xs.length, h0, Nat.zero_add _⟩, fun i m H ⟨hp, em⟩ => ?_⟩
  obtain ⟨qx, qy⟩ := hq i H hp
  cases m with
  | zero =>
    have e : i = xs.length := em
    subst e
    exact .inl ⟨⟨xs, ys, qx, qy, .inl (Nat.le_refl _)⟩, hd H hp⟩
  | succ m =>
    have li : i < xs.length := by omega
    have hx := List.getElem?_eq_getElem li
    have hy := List.getElem?_eq_getElem (l := ys) (i := i) (by omega)
    refine .inr ⟨⟨xs, ys, _, _, qx, qy, hx, hy⟩, Pv (i + 1), fun H' h' => ⟨m, Nat.lt_succ_self m, h', by omega⟩, ?_⟩
    rintro _ _ ⟨T, x, y, rfl, hT, rfl, ex, ey⟩
    exact hs i x y T H (ex xs qx) (ey ys qy) hp hT
/-! three lists -/
def It3 (K : PySem.W.Frag) (a b c : Addr) : It :=
  ⟨fun i H => ∃ (xs ys zs : List V) (x y z : V), SqL K H a xs ∧ SqL K H b ys ∧ SqL K H c zs ∧ xs[i]? = some x ∧ ys[i]? = some y ∧ zs[i]? = some z,
    fun i H v H' => ∃ (T : Addr) (x y z : V), v = .ref T ∧ H T = none ∧ H' = upd H T (.tup [x, y, z]) ∧ (∀ xs, SqL K H a xs → xs[i]? = some x) ∧ (∀ ys, SqL K H b ys → ys[i]? = some y) ∧ ∀ zs, SqL K H c zs → zs[i]? = some z,
    fun i H => ∃ xs ys zs : List V, SqL K H a xs ∧ SqL K H b ys ∧ SqL K H c zs ∧ i ≤ xs.length ∧ i ≤ ys.length ∧ i ≤ zs.length ∧ (i = xs.length ∨ i = ys.length ∨ i = zs.length)⟩
theorem turn_3 {P : Program} {w : World} {K : PySem.W.Frag} {elts : List Expr} {kk : Nat} {tpos : Pos} {a b c z TI TO i1 i2 i3 : Addr} (D : ZipSep3 z TI TO i1 i2 i3 [i1, a] [i2, b] [i3, c]) (na : a ≠ i1) (nb : b ≠ i2) (nc : c ≠ i3) :
    Turn P w K (.Tuple elts kk tpos) (It3 K a b c) [z, TI, TO, i1, i2, i3] z (fun i h => IsZip h z TI TO .none ∧ IsTupOf3 h TI (.ref i1) (.ref i2) (.ref i3) ∧ (∃ x y u, IsTupOf3 h TO x y u) ∧ h.IsListIter i1 a i ∧ h.IsListIter i2 b i ∧ h.IsListIter i3 c i) where
  mem := List.mem_cons_self
  obj := fun i h st q hc => by
    obtain ⟨hz, hTI, ⟨x, y, u, hTO⟩, ⟨o1, e1, _, d1⟩, ⟨o2, e2, _, d2⟩, ⟨o3, e3, _, d3⟩⟩ := st
    simp only [List.mem_cons, List.mem_nil_iff, or_false] at hc
    rcases hc with q | q | q | q | q | q
    · subst q; exact ⟨_, hz, by intro v e; cases e⟩
    · subst q; exact ⟨_, hTI, by intro v e; cases e⟩
    · subst q; exact ⟨_, hTO, by intro v e; cases e⟩
    · exact ⟨o1, q ▸ e1, fun v q => by rw [d1] at q; cases q⟩
    · exact ⟨o2, q ▸ e2, fun v q => by rw [d2] at q; cases q⟩
    · exact ⟨o3, q ▸ e3, fun v q => by rw [d3] at q; cases q⟩
  keep := fun i h h' ⟨hz, hTI, ⟨x, y, u, hTO⟩, h1, h2, h3⟩ k => ⟨k z (by simp) _ hz, k TI (by simp) _ hTI, ⟨x, y, u, k TO (by simp) _ hTO⟩, h1.at fun o q => k i1 (by simp) o q, h2.at fun o q => k i2 (by simp) o q, h3.at fun o q => k i3 (by simp) o q⟩
  item := by
    intro X hP hw hK hc i pins s σ H E I hf ⟨hz, hTI, ⟨x0, y0, u0, hTO⟩, h1, h2, h3⟩ ⟨xs, ys, zs, x, y, zz, hqx, hqy, hqz, hx, hy, hzz⟩
    subst hP hw hK
    obtain ⟨its, rv, p, _⟩ := I.list hqx
    obtain ⟨its2, rv2, p2, _⟩ := I.list hqy
    obtain ⟨its3, rv3, p3, _⟩ := I.list hqz
    obtain ⟨u, hu, ru⟩ := rv.get hx
    obtain ⟨u2, hu2, ru2⟩ := rv2.get hy
    obtain ⟨u3, hu3, ru3⟩ := rv3.get hzz
    have hh := I.ok.hd hc
    have zl : z < s.heap.objs.size := Heap.lt_size hz
    have l1 := (List.getElem?_eq_some_iff.mp hu).1
    have l2 := (List.getElem?_eq_some_iff.mp hu2).1
    have l3 := (List.getElem?_eq_some_iff.mp hu3).1
    refine wpAny_pyNext_zipD3_item (i := i) D (Draws.list (A := X.A.in1) hh i1 a na its.toArray) (Draws.list (A := X.A.in1) hh i2 b nb its2.toArray) (Draws.list (A := X.A.in1) hh i3 c nc its3.toArray) hz hTI hTO ⟨h1, p.isList⟩ ⟨h2, p2.isList⟩ ⟨h3, p3.isList⟩ (by rw [List.size_toArray]; exact l1) (by rw [List.size_toArray]; exact l2) (by rw [List.size_toArray]; exact l3) fun x1 x2 x3 h' tk q1 q2 q3 z' TO' s1' s2' s3' hT _ hk => ?_
    have e1 : x1 = u := by rw [← Array.getElem?_toList] at q1; exact Option.some.inj (q1.symm.trans hu)
    have e2 : x2 = u2 := by rw [← Array.getElem?_toList] at q2; exact Option.some.inj (q2.symm.trans hu2)
    have e3 : x3 = u3 := by rw [← Array.getElem?_toList] at q3; exact Option.some.inj (q3.symm.trans hu3)
    subst e1 e2 e3
    refine ⟨_, rfl, wpAny_letOwnedTupleGo_zip (s := { s with heap := h', toks := tk }) z' fun h'' z'' sb => ?_⟩
    have hT2 : h''.get? s.heap.objs.size = some { cls := .type "tuple", data := .seq #[x1, x2, x3] } := (sb.2 _ (Nat.ne_of_gt zl)).trans hT
    have new : ObjOk X.prog X.w (upd H s.heap.objs.size (.tup [x, y, zz])) h'' s.heap.objs.size (.tup [x, y, zz]) := ⟨by show 3 ≤ sizeLine; decide, [x1, x2, x3], .cons ru (.cons ru2 (.cons ru3 .nil)), ⟨_, hT2, rfl, _, rfl⟩⟩
    have I1 : Inv X pins σ (upd H s.heap.objs.size (.tup [x, y, zz])) { s with heap := h'', toks := tk } :=
      I.turnedNew (t' := tk) (ch := [z, TI, TO, i1, i2, i3]) (fun c o hb q => by
        simp only [List.mem_cons, List.mem_nil_iff, or_false, not_or] at hb
        exact (sb.2 c hb.1).trans (hk c o hb.1 hb.2.2.1 hb.2.2.2.1 hb.2.2.2.2.1 hb.2.2.2.2.2 q)) hf (Nat.le_refl _) new
    refine ⟨.ref s.heap.objs.size, _, I1, rfl, ⟨_, x, y, zz, rfl, I.hok.fresh (Nat.le_refl _), rfl, fun l hl => by rw [I.list_inj hl hqx]; exact hx, fun l hl => by rw [I.list_inj hl hqy]; exact hy, fun l hl => by rw [I.list_inj hl hqz]; exact hzz⟩, ⟨z'', ?_, ⟨x1, x2, x3, ?_⟩, ?_, ?_, ?_⟩, fun c hcm => ?_⟩
    · exact (sb.2 _ D.TIz).trans (hk _ _ D.TIz D.TITO D.TIi1 D.TIi2 D.TIi3 hTI)
    · exact (sb.2 _ D.TOz).trans TO'
    · exact s1'.1.at fun o q => (sb.2 _ D.zi1.symm).trans q
    · exact s2'.1.at fun o q => (sb.2 _ D.zi2.symm).trans q
    · exact s3'.1.at fun o q => (sb.2 _ D.zi3.symm).trans q
    · have hlt : c < s.heap.objs.size := by
        simp only [List.mem_cons, List.mem_nil_iff, or_false] at hcm
        rcases hcm with q | q | q | q | q | q
        · exact q ▸ zl
        · exact q ▸ Heap.lt_size hTI
        · exact q ▸ Heap.lt_size hTO
        · obtain ⟨_, e1, _⟩ := h1
          exact q ▸ Heap.lt_size e1
        · obtain ⟨_, e2, _⟩ := h2
          exact q ▸ Heap.lt_size e2
        · obtain ⟨_, e3, _⟩ := h3
          exact q ▸ Heap.lt_size e3
      rw [upd_ne (Nat.ne_of_lt hlt)]
      exact (hf c hcm).1
  done := by
    intro X hP hw hK hc i pins s σ H E I hf ⟨hz, hTI, ⟨x0, y0, u0, hTO⟩, h1, h2, h3⟩ ⟨xs, ys, zs, hqx, hqy, hqz, m1, m2, m3, hend⟩
    subst hP hw hK
    obtain ⟨its, rv, p, _⟩ := I.list hqx
    obtain ⟨its2, rv2, p2, _⟩ := I.list hqy
    obtain ⟨its3, rv3, p3, _⟩ := I.list hqz
    have hh := I.ok.hd hc
    have l1 := rv.length
    have l2 := rv2.length
    have l3 := rv3.length
    exact wpAny_pyNext_zipD3_end (i := i) D (Draws.list (A := X.A.in1) hh i1 a na its.toArray) (Draws.list (A := X.A.in1) hh i2 b nb its2.toArray) (Draws.list (A := X.A.in1) hh i3 c nc its3.toArray) hz hTI hTO ⟨h1, p.isList⟩ ⟨h2, p2.isList⟩ ⟨h3, p3.isList⟩ (by rw [List.size_toArray]; omega) (by rw [List.size_toArray]; omega) (by rw [List.size_toArray]; omega)
      (by rw [List.size_toArray, List.size_toArray, List.size_toArray]; omega)
      fun h' tk hk => ⟨rfl, I.turnedL (t' := tk) (ch := [z, TI, TO, i1, i2, i3]) (fun c o hb q => by
        simp only [List.mem_cons, List.mem_nil_iff, or_false, not_or] at hb
        exact hk c o hb.1 hb.2.2.1 hb.2.2.2.1 hb.2.2.2.2.1 hb.2.2.2.2.2 q) hf⟩
  self := fun A i s Q E st h => wpAny_pyIter_zip st.1 h
def iZip3 (K : PySem.W.Frag) (ta : TA) : TI := fun σ H R => ta σ H fun vs H1 => ∃ (a b c : Addr) (xs ys zs : List V), vs = [.ref a, .ref b, .ref c] ∧ SqL K H1 a xs ∧ SqL K H1 b ys ∧ SqL K H1 c zs ∧ R (It3 K a b c) H1
theorem pi_zip3 {X : Cx} {K : PySem.W.Frag} {e e2 e3 : Expr} {ta : TA} {p pos tpos : Pos} {elts : List Expr} {kk : Nat} (hK : X.K = K) (hg : Gl X "zip") (hm : X.mg "zip" = none) (ha : PA X [e, e2, e3] ta)
    (hs : starEach [e, e2, e3] X.env = (false, eval e X.env) :: starEach [e2, e3] X.env := by rfl) (hpl : (backTo pos (starEach [e2, e3] X.env)).any (·.1) = false := by rfl) :
    PI X (.Tuple elts kk tpos) (.Call (.Name "zip" p) [e, e2, e3] [] pos) (iZip3 K ta) := by
  subst hK
  refine ⟨fun pins s σ H R I h => ?_⟩
  refine Call_ (ld_blt I hg hm PyProof.Rows.boot_zip (PyProof.Rows.callWith_type1 (thn (ha.run pos pins s σ H _ I h) fun us s1 ⟨vs, H1, I1, r1, a, b, c, xs, ys, zs, ex, hqx, hqy, hqz, q⟩ => ?_) hs hpl))
  subst ex
  cases r1 with
  | cons r rr =>
  cases rr with
  | cons r' rr =>
  cases rr with
  | cons r'' rr =>
  cases rr
  cases r
  cases r'
  cases r''
  obtain ⟨its, rv, p1, _⟩ := I1.list hqx
  obtain ⟨its2, rv2, p2, _⟩ := I1.list hqy
  obtain ⟨its3, rv3, p3, _⟩ := I1.list hqz
  refine call_zt p1.isList p2.isList p3.isList fun h' hz hTI hTO h1 h2 h3 hk => wpAny_pyIter_zip hz ?_
  have I2 : Inv X pins σ H1 { s1 with heap := h' } := I1.kept (t' := s1.toks) hk
  have D := sep_t s1.heap.objs.size a b c p1.lt p2.lt p3.lt
  refine ⟨s1.heap.objs.size + 5, [s1.heap.objs.size + 5, s1.heap.objs.size + 3, s1.heap.objs.size + 4, s1.heap.objs.size, s1.heap.objs.size + 1, s1.heap.objs.size + 2], _, _, H1, rfl, I2, turn_3 D (Nat.ne_of_lt p1.lt) (ne_add _ _ 1 p2.lt) (ne_add _ _ 2 p3.lt), ⟨hz, hTI, ⟨_, _, _, hTO⟩, h1, h2, h3⟩, fun c hcm => ?_, q⟩
  have hle : s1.heap.objs.size ≤ c := by
    simp only [List.mem_cons, List.mem_nil_iff, or_false] at hcm
    exact le_two hcm
  exact I1.fpOk hle (I1.hok.fresh hle)
theorem for_zip3 {K : PySem.W.Frag} {a b c : Addr} {xs ys zs : List V} {g : TG} {tb : TS} {D : Ends} {σ : L2.St} {H : Hp} (h1 : xs.length = ys.length) (h2 : xs.length = zs.length) (Pv : Nat → L2.St → Hp → Prop) (h0 : Pv 0 σ H)
    (hq : ∀ i σ H, Pv i σ H → SqL K H a xs ∧ SqL K H b ys ∧ SqL K H c zs)
    (hs : ∀ i x y z T σ H, xs[i]? = some x → ys[i]? = some y → zs[i]? = some z → Pv i σ H → H T = none → g (.ref T) σ (upd H T (.tup [x, y, z])) fun σ2 H2 => tb { nx := Pv (i + 1), rt := D.rt, bk := D.nx, ct := Pv (i + 1) } σ2 H2)
    (hd : ∀ σ H, Pv xs.length σ H → D.nx σ H) :
    ∃ W : Nat → Nat → L2.St → Hp → Prop, (∃ m, W 0 m σ H) ∧ ∀ i m σ H, W i m σ H → ((It3 K a b c).stop i H ∧ D.nx σ H) ∨ ((It3 K a b c).go i H ∧ ∃ N : L2.St → Hp → Prop, (∀ σ' H', N σ' H' → ∃ m', m' < m ∧ W (i + 1) m' σ' H') ∧
      ∀ x H', (It3 K a b c).yld i H x H' → g x σ H' fun σ2 H2 => tb { nx := N, rt := D.rt, bk := D.nx, ct := N } σ2 H2) := by
  refine ⟨fun i m σ H => Pv i σ H ∧ i + m = xs.length, ⟨xs.length, h0, Nat.zero_add _⟩, fun i m σ H ⟨hp, em⟩ => ?_⟩
  obtain ⟨qx, qy, qz⟩ := hq i σ H hp
  cases m with
  | zero =>
    have e : i = xs.length := em
    subst e
    exact .inl ⟨⟨xs, ys, zs, qx, qy, qz, Nat.le_refl _, by omega, by omega, .inl rfl⟩, hd σ H hp⟩
  | succ m =>
    have li : i < xs.length := by omega
    have hx := List.getElem?_eq_getElem li
    have hy := List.getElem?_eq_getElem (l := ys) (i := i) (by omega)
    have hz := List.getElem?_eq_getElem (l := zs) (i := i) (by omega)
    refine .inr ⟨⟨xs, ys, zs, _, _, _, qx, qy, qz, hx, hy, hz⟩, Pv (i + 1), fun σ' H' h' => ⟨m, Nat.lt_succ_self m, h', by omega⟩, ?_⟩
    rintro _ _ ⟨T, x, y, z, rfl, hT, rfl, ex, ey, ez⟩
    exact hs i x y z T σ H (ex xs qx) (ey ys qy) (ez zs qz) hp hT
end Bs
namespace Bs
open PySem PySem.Spec PyProof.Rows L2 GenW
/-! ### yield from a list -/
section
variable {prog : Program} {w : World} {A : Around} {E : Value → Shared → Prop} {s : Shared}
theorem sp_list_item {it l : Addr} {i : Nat} {items : Array Value} {x : Value} {Q : Option Value → Shared → Prop} (hit : s.heap.IsListIter it l i) (hl : s.heap.IsList l items) (hx : items[i]? = some x)
    (hQ : ∀ h', h'.IsListIter it l (i + 1) → Heap.SameBut it s.heap h' → Q (some x) { s with heap := h' }) : wpAny (model prog w) A (callSpecial? (.ref it) "__next__") Q E s := by
  obtain ⟨o, ho, hc, hd⟩ := id hit
  obtain ⟨ol, hol, _, nl, hdl⟩ := hl
  refine wpAny_callSpecial?_slot (name := Str.ofString "__next__") hit.typeIs slot_listiter_next (wpAny_call_entry slot_listiter_next hit.typeIs entry_listiter_next ?_ (args_listiter_next _))
  show wpAny _ _ (field (.ref it) 0 >>= _) _ _ s
  refine wpAny_bind (wpAny_field ho hd (x := .ref l) rfl ?_)
  show wpAny _ _ (if (Value.ref l == Value.none) = true then _ else _) _ _ s
  rw [if_neg (show ¬ ((Value.ref l == Value.none) = true) from Bool.false_ne_true)]
  show wpAny _ _ (field (.ref it) 1 >>= _) _ _ s
  refine wpAny_bind (wpAny_field ho hd (x := .int i 0) rfl ?_)
  show wpAny _ _ (seqItems? (.ref l) >>= _) _ _ s
  refine wpAny_bind (wpAny_seqItems hol hdl ?_)
  simp only [Int.toNat_natCast, hx]
  refine wpAny_bind (wpAny_setField ho hd (by simp) (wpAny_pure ⟨x, rfl, hQ _ ?_ (Heap.SameBut.update ..)⟩))
  exact ⟨_, Heap.get?_update_self _ ho (Obj.isFreed_of_fields (Obj.data_mapFields hd _)), (Obj.cls_mapFields ..).trans hc, by rw [Obj.data_mapFields hd]; simp [rawInt]⟩
theorem sp_list_end {it l : Addr} {i : Nat} {items : Array Value} {Q : Option Value → Shared → Prop} (hh : A.handled = none) (hit : s.heap.IsListIter it l i) (hl : s.heap.IsList l items) (hx : items[i]? = none)
    (hE : ∀ e h', StopX e h' → Heap.ExtBut it s.heap h' → E e { s with heap := h' }) : wpAny (model prog w) A (callSpecial? (.ref it) "__next__") Q E s := by
  obtain ⟨o, ho, hc, hd⟩ := id hit
  obtain ⟨ol, hol, _, nl, hdl⟩ := hl
  refine wpAny_callSpecial?_slot (name := Str.ofString "__next__") hit.typeIs slot_listiter_next (wpAny_call_entry slot_listiter_next hit.typeIs entry_listiter_next ?_ (args_listiter_next _))
  show wpAny _ _ (field (.ref it) 0 >>= _) _ _ s
  refine wpAny_bind (wpAny_field ho hd (x := .ref l) rfl ?_)
  show wpAny _ _ (if (Value.ref l == Value.none) = true then _ else _) _ _ s
  rw [if_neg (show ¬ ((Value.ref l == Value.none) = true) from Bool.false_ne_true)]
  show wpAny _ _ (field (.ref it) 1 >>= _) _ _ s
  refine wpAny_bind (wpAny_field ho hd (x := .int i 0) rfl ?_)
  show wpAny _ _ (seqItems? (.ref l) >>= _) _ _ s
  refine wpAny_bind (wpAny_seqItems hol hdl ?_)
  simp only [Int.toNat_natCast, hx]
  refine wpAny_bind (wpAny_rule (wpAny_bind (wpAny_setField ho hd (by simp) ?_)))
  show wpAny _ _ (newExc (.type "StopIteration") [] >>= _) _ _ _
  refine wpAny_bind ?_
  simp only [newExc, newTuple]
  refine wpAny_bind (wpAny_newObj_type ?_ (by size_fits))
  refine wpAny_bind (m := firstArgMember _ _) (wpAny_of_eq (a := Value.none) (by first | rfl | (simp only [firstArgMember]; rfl)) ?_)
  refine wpAny_newObj_type ?_ (by size_fits)
  simp only [raiseNew]
  refine wpAny_bind (wpAny_handled ?_)
  first | rw [show A.in1.handled = none from hh] | rw [hh]
  refine wpAny_bind (wpAny_pure (wpAny_throw ?_))
  refine hE _ _ ⟨_, _, _, rfl, Heap.get?_push_size _ rfl, rfl, rfl, ?_⟩ (((Heap.SameBut.update ..).extBut.push _).push _)
  first
    | rfl
    | (rw [Array.getElem?_append_left (by decide)]; rfl)
    | kernel_rfl
end
def tYfLst (te : TE) : TYf := fun σ H Q => te σ H fun x H1 => ∃ a xs, x = .ref a ∧ H1 a = some (.lst xs) ∧ Q xs H1
theorem close_lst : typeLookup (.type "list_iterator") "close" = pure none := by rw [typeLookup_type, builtinLookup_eq_fast]; kernel_rfl
theorem yf_lst {X : Cx} {e : Expr} {te : TE} (he : PE X e te) : YfE X e (tYfLst te) := by
  refine ⟨fun pins s σ H Q I h => ?_⟩
  refine thn (he.run pins s σ H _ I h) fun v s1 ⟨x, H1, I1, r1, a, xs, ex, ha, hq⟩ => ?_
  subst ex
  obtain rfl : v = Value.ref a := r1
  obtain ⟨hlen, its, cap, rits, ht0⟩ := (show ObjOk X.prog X.w H1 s1.heap a (.lst xs) from I1.hok a _ ha)
  have ht : s1.heap.IsList a its.toArray := ⟨_, ht0, rfl, _, rfl⟩
  have htl : a < s1.heap.objs.size := Heap.lt_size ht0
  refine ⟨"list", ht.typeIs, by decide, wpAny_pyIter_list ht ?_⟩
  have ksz : ∀ b o, s1.heap.get? b = some o → b ≠ s1.heap.objs.size := fun b o e => Nat.ne_of_lt (Heap.lt_size e)
  have kp : ∀ b o, s1.heap.get? b = some o → (s1.heap.push { cls := .type "list_iterator", data := .fields #[.ref a, .int 0 0] }).get? b = some o := fun b o e => Heap.get?_push_of_some _ e
  refine ⟨s1.heap.objs.size, H1, xs, fun j h => h.IsListIter s1.heap.objs.size a j ∧ h.IsList a its.toArray, rfl, I1.kept (t' := s1.toks) kp, .inr I1.sz, Nat.ne_of_gt I1.lt, fun y c hy => ?_, I1.hok.fresh (Nat.le_refl _), fun p hp => ?_,
    ⟨⟨_, Heap.get?_push_size _ rfl, rfl, rfl⟩, ⟨_, kp _ _ ht0, rfl, _, rfl⟩⟩, ⟨⟨"list_iterator", fun j h q => ?_, close_lst, by decide⟩, fun j h h' q hk => ?_, fun A' j x s2 Q' E' hA hx q hQ => ?_, fun A' s2 Q' E' hA q hE => ?_⟩, hq⟩
  · obtain ⟨v, o, ho, _⟩ := I1.cell y c hy
    exact ksz c o ho
  · exact ksz p.1 _ (I1.pin p hp).1
  · obtain ⟨⟨o, ho, hc, _⟩, _⟩ := q
    exact ⟨o, ho, hc⟩
  · obtain ⟨⟨o, ho, r⟩, o2, ho2, r2⟩ := q
    exact ⟨⟨o, hk _ o (.inl rfl) ho, r⟩, o2, hk _ o2 (.inr (by rw [ha]; exact fun z => by cases z)) ho2, r2⟩
  · obtain ⟨q1, q2⟩ := q
    obtain ⟨u, hu, ru⟩ := rits.get hx
    have hne : a ≠ s1.heap.objs.size := Nat.ne_of_lt htl
    refine sp_list_item q1 q2 (x := u) (by simpa using hu) fun h' q1' hs => hQ u h' s2.toks ru ⟨q1', ?_⟩ fun b o hb eb => hs.extBut b o hb eb
    obtain ⟨o2, ho2, r2⟩ := q2
    exact ⟨o2, hs.extBut _ _ hne ho2, r2⟩
  · obtain ⟨q1, q2⟩ := q
    have hnone : its.toArray[xs.length]? = none := by
      have e := rits.length
      have e2 : its[xs.length]? = none := List.getElem?_eq_none_iff.mpr (by omega)
      simpa using e2
    exact sp_list_end hA q1 q2 hnone fun e h' hS hk => hE e h' s2.toks hS fun b o hb eb => hk b o hb eb
/-! ### list(d.values()) -/
theorem kv_at {κ : Type} : ∀ {kvs : List (κ × V)} {vs : List (κ × Value)}, KV kvs vs → ∀ {j : Nat} {x : V} {k : κ} {w : Value}, (kvs.map fun kv => kv.2)[j]? = some x → vs[j]? = some (k, w) → RelV x w
  | _, _, .cons r t, 0, _, _, _, h1, h2 => by
    simp only [List.map_cons, List.getElem?_cons_zero, Option.some.injEq] at h1 h2
    rw [← h1]
    have e := r.2
    rw [h2] at e
    exact e
  | _, _, .cons r t, j + 1, _, _, _, h1, h2 => kv_at t (j := j) (by simpa using h1) (by simpa using h2)
  | _, _, .nil, _, _, _, _, _, h2 => by simp at h2
def tLV (td : TE) : TE := fun σ H Q => td σ H fun x H1 => ∃ d kvs, x = .ref d ∧ H1 d = some (.dK kvs) ∧ ∀ q, H1 q = none → Q (.ref q) (upd H1 q (.lst (kvs.map fun kv => kv.2)))
theorem pe_listVals {X : Cx} {e : Expr} {td : TE} {p pos apos cpos : Pos} (hc : X.calm = true) (hg : Gl X "list") (hmg : X.mg "list" = none) (he : PE X e td)
    (hbase : attributeBase e "values" X.env (eval e X.env) = eval e X.env := by rfl) (hline : (apos.endLine == cpos.line) = true := by rfl)
    (hst : starEach [.Call (.Attribute e "values" apos) [] [] cpos] X.env = (false, eval (.Call (.Attribute e "values" apos) [] [] cpos) X.env) :: starEach [] X.env := by rfl) :
    PE X (.Call (.Name "list" p) [.Call (.Attribute e "values" apos) [] [] cpos] [] pos) (tLV td) := by
  refine ⟨fun pins s σ H Q I h => ?_⟩
  refine wpAny_Call_Name_kw (ld_blt I hg hmg boot_list ?_ (by decide) (by decide))
  refine PyProof.Rows.callWith_type1 ?_ hst rfl
  rw [hst]
  show wpAny _ _ (spliced ((false, eval (.Call (.Attribute e "values" apos) [] [] cpos) X.env) :: backTo pos (starEach [] X.env))) _ _ s
  refine Calls.spliced_cons ?_
  refine wpAny_Call_method (T := "dict") (id := "dict.values") hbase rfl hline F.plainAttrs_dict F.slot_dict_values F.type_dict_values (thn (he.run pins s σ H _ I h) fun u s1 ⟨x, H1, I1, rx, d, kvs, ex, hd, q⟩ => ?_)
  subst ex
  obtain rfl : u = Value.ref d := rx
  obtain ⟨z, lo, vs, rk, hdd⟩ := (show ObjOk X.prog X.w H1 s1.heap d (.dK kvs) from I1.hok d _ hd)
  obtain ⟨ep, hat⟩ := hdd.dictAt
  have hl : kvs.length = vs.length := Paired.length rk
  refine ⟨hdd.typeIs, hdd.mapOf.noDict, ?_⟩
  show wpAny _ _ (callWith cpos (.builtin "dict.values") [.ref d] [] []) _ X.xe s1
  refine method_meetsIn F.slot_dict_values F.entry_dict_values rfl (PySem.evalArgs_none ⟨rfl, hdd.typeIs, F.args_dict_values_1 _, _, meets_dict_values (mixKind X.prog X.w) d lo, ⟨vs, hdd⟩, ?_⟩)
  refine Calls.spliced_nil ?_
  have kp : ∀ b o, s1.heap.get? b = some o → (s1.heap.push { cls := .type "dict_values", data := .fields #[.ref d] }).get? b = some o := fun b o e => Heap.get?_push_of_some _ e
  have I2 : Inv X pins σ H1 { s1 with heap := s1.heap.push { cls := .type "dict_values", data := .fields #[.ref d] } } := I1.kept (t' := s1.toks) kp
  refine PySem.W.kdl_call (s := { s1 with heap := s1.heap.push { cls := .type "dict_values", data := .fields #[.ref d] } }) (PySem.W.kdl_values (knd := mixKind X.prog X.w) (kvs := vs) (ep := ep) (r := s1.heap.objs.size) (d := d)) (I2.ok.hd hc) ⟨⟨_, Heap.get?_push_size _ rfl, rfl, rfl⟩, hat.push _⟩ (by rw [← hl]; exact z) fun h' tk acc' c' hkeep hS hacc => ?_
  refine ⟨.ref _, upd H1 _ (.lst (kvs.map fun kv => kv.2)), I2.laid hkeep (Nat.le_refl _) (show ObjOk X.prog X.w _ _ _ (.lst (kvs.map fun kv => kv.2)) from ⟨?_, acc'.toList, c', ?_, ?_⟩), rfl, q _ (I2.hok.fresh (Nat.le_refl _))⟩
  · rw [List.length_map]; exact z
  · have el : acc'.toList.length = acc'.size := by simp
    refine vals_of_at (by rw [List.length_map, el, hacc.1, hl]) fun j x w h1 h2 => ?_
    obtain ⟨k, hky⟩ := hacc.2 j w (by rw [← Array.getElem?_toList]; exact h2)
    exact kv_at rk h1 hky
  · rw [Array.toArray_toList]; exact hS
end Bs
/-! ### != of two lists of tuples that hold the same int and the same object -/
namespace Bs
open PySem PySem.Spec PyProof.Rows L2 PySem.SeqAt
section
variable {X : Cx}
def TwinT (K : PySem.W.Frag) (H : Hp) (v z : V) : Prop := ∃ (t a : Addr) (n : Int) (r : Addr), v = .ref t ∧ z = .ref a ∧ SqT K H t [.int n, .ref r] ∧ SqT K H a [.int n, .ref r]
def rNeTs (K : PySem.W.Frag) : R2 := fun x y H Q => ∃ (l b : Addr) (vs xs : List V), x = .ref l ∧ y = .ref b ∧ SqL K H l vs ∧ SqL K H b xs ∧ vs.length = xs.length ∧ (∀ (i : Nat) (v z : V), vs[i]? = some v → xs[i]? = some z → TwinT K H v z) ∧ Q (.bl false) H
theorem twin_eq {A : Around} {pins : List (Addr × Obj)} {s : Shared} {σ : L2.St} {H : Hp} {v z : V} {u w : Value} (I : Inv X pins σ H s) (h : TwinT X.K H v z) (ru : RelV v u) (rw_ : RelV z w) (hu : A.units + 8 < cLine) : EqAt A s u w true := by
  obtain ⟨t, a, n, r, rfl, rfl, ht, ha⟩ := h
  cases ru
  cases rw_
  by_cases c : t = a
  · subst c; exact EqAt.same _
  obtain ⟨its, r1, h1, _⟩ := I.tuple ht
  obtain ⟨jts, r2, h2, _⟩ := I.tuple ha
  cases r1 with
  | cons p1 q1 =>
  cases q1 with
  | cons p2 q2 =>
  cases q2
  cases r2 with
  | cons p3 q3 =>
  cases q3 with
  | cons p4 q4 =>
  cases q4
  obtain ⟨k1, rfl⟩ := p1
  obtain ⟨k3, rfl⟩ := p3
  cases p2
  cases p4
  have e := RcAt.tuples (A := A) (s := s) (e := fun _ => true) h1 h2 (by omega) (fun j j1 j2 => by
    match j, j1, j2 with
    | 0, _, _ =>
      have z := EqAt.int_int (A := A.in1) (s := s) n k1 n k3
      rw [beq_self_eq_true] at z
      exact z
    | 1, _, _ => exact EqAt.same _)
  exact EqAt.of_refs c e
theorem op_neTs {K : PySem.W.Frag} (hK : X.K = K) (hu : X.A.units + 64 < cLine) : OpR X (compareOp .NotEq) (rNeTs K) := by
  subst hK
  intro pins s σ H x y v u Q I rx ry h
  obtain ⟨l, b, vs, xs, rfl, rfl, hl, hb, hn, ht, q⟩ := h
  cases rx
  cases ry
  obtain ⟨its, r1, h1, _⟩ := I.list hl
  obtain ⟨jts, r2, h2, _⟩ := I.list hb
  have n1 := r1.length
  have n2 := r2.length
  have e := RcNeAt.lists (A := X.A) (s := s) (e := fun _ => true) h1.isList h2.isList (by simp only [List.size_toArray]; omega) (by omega) (fun j j1 j2 => by
    have g1 : j < its.length := by simpa using j1
    have g2 : j < jts.length := by simpa using j2
    obtain ⟨u1, a1, b1⟩ := r1.get (List.getElem?_eq_getElem (show j < vs.length by omega))
    obtain ⟨u2, a2, b2⟩ := r2.get (List.getElem?_eq_getElem (show j < xs.length by omega))
    have z := twin_eq (A := X.A.in1) I (ht j _ _ (List.getElem?_eq_getElem (show j < vs.length by omega)) (List.getElem?_eq_getElem (show j < xs.length by omega))) b1 b2 (by show X.A.units + 1 + 8 < cLine; omega)
    rw [List.getElem?_eq_getElem g1] at a1
    rw [List.getElem?_eq_getElem g2] at a2
    cases a1
    cases a2
    simpa using z)
  have al : ((List.range its.toArray.size).all fun _ => true) = true := by simp
  rw [al] at e
  exact e X.prog X.w _ _ ⟨.bl false, H, I, rfl, q⟩
end
end Bs
/-! ### defs that show things: what is known of the guards around them -/
namespace Gd
open PySem PySem.Spec PyProof.Rows L2
variable {P : Program} {w : World} {K : PySem.W.Frag} {mg : Str → Option Value} {base : Heap} {X : Cx}
/-- nothing is being shown around -/
def Un (A : Around) : Prop := A.guards = some []
structure FnG (P : Program) (w : World) (K : PySem.W.Frag) (mg : Str → Option Value) (base : Heap) (k : Nat) (f : Addr) (fd : FuncData) (ps : List Str) (sp : Sp) : Prop where
  many : ∀ vs H Q E, sp vs H Q E → vs.length = ps.length
  does : ∀ (A : Around) (up : List Env) (s : Shared) (H : Hp) (g : Args) (us : List Value) (vs : List V) (Q : VK) (E : XK), Un A → Room k A → Env0 P w K mg base A up s H → BindsTo s fd g (ps.zip us) → Vals vs us → sp vs H Q E →
    codeAny (model P w) A (.call (.ref f) g) (CR C8.CX0 up P w H s Q E) s
theorem FnG.of {k : Nat} {f : Addr} {fd : FuncData} {ps : List Str} {sp : Sp} (F : FnOk P w K mg base C8.CX0 k f fd ps sp) : FnG P w K mg base k f fd ps sp :=
  ⟨F.len, fun A up s H g us vs Q E _ hr e b r q => F.run A up s H g us vs Q E hr e b r q⟩
theorem FnG.mono {j k : Nat} {f : Addr} {fd : FuncData} {ps : List Str} {sp : Sp} (F : FnG P w K mg base j f fd ps sp) (h : j ≤ k) : FnG P w K mg base k f fd ps sp :=
  ⟨F.many, fun A up s H g us vs Q E un hr e b r q => F.does A up s H g us vs Q E un (hr.mono h) e b r q⟩
/-- the promise of such a def, by its body -/
theorem mkG {x qual : Str} {params : Arguments} {body : List Stmt} {scope : Scope} {dvs : List V} {kws : List (Str × V)} {f : Addr} {fd : FuncData} {N ps : List Str} {k : Nat} {sp : Sp} (F : FunD K x qual params body scope dvs kws f fd) (S : FnScope N ps scope) (many : ∀ vs H Q E, sp vs H Q E → vs.length = ps.length)
    (does : ∀ (cdv : Value) (A : Around) (up : List Env) (s : Shared) (H : Hp) (vs : List V) (Q : VK) (E : XK), Un (A.deeper (envOfC qual scope s.heap.objs.size f cdv)) → Room k (A.deeper (envOfC qual scope s.heap.objs.size f cdv)) → sp vs H Q E →
      ∃ t, PSs (cxOf C8.CX0 P w K mg base N qual scope f cdv A up s H E).nox body t ∧ t { nx := fun _ H' => Q .non H', rt := Q } (start N vs) H) : FnG P w K mg base (k + 1) f fd ps sp := by
  obtain ⟨oc, od, dV, kV, doc, pm, an, cdv, ct, osl, rfl, lk, hcd, _, _⟩ := F.ex
  refine ⟨many, fun A up s H g us vs Q E un hr e b r q => ?_⟩
  have len := many _ _ _ _ q
  have kin : K.In s.heap := e.mod.kin.keeps fun b o z => (e.bs b o z).1
  have nol : s.heap.NoLimit := e.mod.nolimit.keeps fun b o z => (e.bs b o z).1
  refine codeAny_call_function hr.depth (kin _ _ lk) rfl S.co S.gen rfl (PySem.W.codeRec_of kin hcd) (b _ _ _ _ ?_)
  refine wpAny_newFunctionEnv_cells S.kind (fun y hy => ?_) fun env he s1 z => ?_
  · rcases S.par y.1 (List.of_mem_zip (a := y.1) (b := y.2) hy).1 with l | c
    · exact .inl l
    · exact .inr ⟨c, PySem.W.cellsFrom_some _ _ _ (.inl c)⟩
  · subst he
    obtain ⟨t, ht, h⟩ := does cdv A up s H vs Q E un (hr.deeper _) q
    have ht := ht.nox
    have J : Inv (cxOf C8.CX0 P w K mg base N qual scope f cdv A up s H E) [] (start N vs) H s1 := inv_start S hr.hd e len r z
    refine ⟨nol.keeps z.toInCall.keep, codeAny_func (wpAny_mono (ht.run [] s1 (start N vs) H _ J h) (fun fl s2 hs => ?_) fun _ _ hs => hs)⟩
    match fl, hs with
    | .ret _, ⟨v, _, H2, J2, rv, q2⟩ => exact ⟨v, H2, J2.os, J2.bare, J2.base, J2.hok, rv, q2⟩
    | .next, ⟨_, H2, J2, q2⟩ => exact ⟨.non, H2, J2.os, J2.bare, J2.base, J2.hok, rfl, q2⟩
    | .brk, ⟨_, _, _, q2⟩ => exact q2.elim
    | .cont, ⟨_, _, _, q2⟩ => exact q2.elim
/-- such a def, called by its name -/
structure CalG (P : Program) (w : World) (K : PySem.W.Frag) (mg : Str → Option Value) (base : Heap) (k : Nat) (x : Str) (sp : Sp) (dvs : List V) : Prop where
  ex : ∃ (f : Addr) (fd : FuncData) (ps : List Str) (ds : List Value), FnG P w K mg base k f fd ps sp ∧ mg x = some (.ref f) ∧ PySem.W.keepIn K (.ref f) = true ∧ Binds K fd ps ds ∧ Vals dvs ds
theorem pe_cG {k j : Nat} {x : Str} {sp : Sp} {dvs : List V} {p pos : Pos} {e : Expr} {es : List Expr} {t : TA} (c : CalG X.prog X.w X.K X.mg X.base k x sp dvs) (un : Un X.A) (hr : Room j X.A) (hk : k ≤ j) (hg : Gl X x) (ha : PA X (e :: es) t)
    (hdb : (x == ("__debug__" : Str)) = false := by decide) (he : starEach (e :: es) X.env = (false, eval e X.env) :: starEach es X.env := by rfl) (hpl : (backTo pos (starEach es X.env)).any (·.1) = false := by rfl) :
    PE X (.Call (.Name x p) (e :: es) [] pos) (tCall sp dvs C8.E0 t) := by
  obtain ⟨f, fd, ps, ds, F, hm, kp, b, d⟩ := c.ex
  refine ⟨fun pins s σ H Q I h => wpAny_Call_Name_kw (ld_glob I hg hm ?_ hdb)⟩
  refine PySem.W.callWith_K (h₀ := X.base) I.ok.mod.kin kp (thn (ha.run pos pins s σ H _ I h) fun us s1 ⟨vs, H1, I1, r, q⟩ => ⟨I1.kIn, ?_⟩) he hpl
  have r2 : Vals (vs ++ dvs) (us ++ ds) := r.append d
  refine wpAny_call (codeAny_mono (F.does X.A X.stack s1 H1 ⟨us, []⟩ (us ++ ds) (vs ++ dvs) Q C8.E0 un (hr.mono hk) I1.env0 (b s1 us I1.kIn (by rw [← r2.length]; exact F.many _ _ _ _ q)) r2 q) fun res s2 hq => ?_)
  match res, hq with
  | .error e, hq => exact C8.pass0 (E := C8.E0) pins σ H1 s1 e s2 I1 hq
  | .ok (.ret _), hq => exact I1.after hq
  | .ok .next, hq => exact hq.elim
  | .ok .brk, hq => exact hq.elim
  | .ok .cont, hq => exact hq.elim
/-- repr of lists and tuples -/
def rRepr (K : PySem.W.Frag) : List V → Hp → VK → Prop := fun vs H Q => ∃ (v : V) (d : PyData), vs = [v] ∧ Dp K H v d ∧ PyProof.Rows.isDisplay d = true ∧ d.showable = true ∧ d.hasDict = false ∧ d.depth ≤ 60 ∧ d.shown.length ≤ sizeLine ∧ Q (.str d.shown) H
theorem call_reprD (hK : X.K = K) (un : Un X.A) (hu : X.A.units + 64 < cLine) : CallR X (.builtin "repr") (rRepr K) := by
  subst hK
  intro pins s σ H vs us Q I r h
  obtain ⟨v, d, rfl, hd, hi, hs, hn, h6, hl, q⟩ := h
  obtain ⟨u, rfl, ru⟩ := vals1 r
  obtain ⟨as, r1⟩ := Dp.reads I d v u hd ru
  obtain ⟨a, rfl⟩ := PyProof.Rows.isRef_of_reads r1 hi
  exact repr_of_reads' r1 hs (PyData.noDict_hsm hn) un (by omega) (fun _ _ e => e) (fun h' t tk hk => ⟨.str d.shown, H, I.kept hk, ⟨t, rfl⟩, q⟩) hl
end Gd
namespace Gd
open PySem PySem.Spec PyProof.Rows L2
variable {P : Program} {w : World} {K : PySem.W.Frag} {mg mb : Str → Option Value} {k : Nat} {fa a : Addr} {fd : FuncData} {x : Str} {sp : Sp} {s : Shared} {vs : List Value} {ns : List Int}
/-- what a law's end wants of its call -/
abbrev Done (s : Shared) (r : Result) (s' : Shared) : Prop := r = .ok (.ret (.bool true)) ∧ OldK s.heap s'.heap ∧ s'.os = s.os ∧ AllBare s'.gens
theorem from_heap {H : Hp} (hO : Only H) (hS : SqL K H a (ns.map V.int)) (hok : HOk P w H s.heap) (hA : ∀ b, H b ≠ none → b = a) (hK : H a ≠ none → K.lookup a = none)
    (kin : K.In s.heap) (hm : s.heap.Ns mainGlobals mg) (hb : s.heap.Ns builtinsNs mb) (hbb : ∀ x : Str, x ≠ "__name__" → mb x = bootBuiltins x) (lim : s.heap.NoLimit) (bare : s.gens = #[])
    (ha : s.heap.get? a = some { cls := .type "list", data := .seq vs.toArray }) (hr : Room k callerA)
    (F : ∀ base : Heap, K.In base → base.Ns mainGlobals mg → FnG P w K mg base k fa fd [x] sp) (bind : ∀ (s : Shared) (u : Value), BindsTo s fd ⟨[u], []⟩ [(x, u)])
    (hsp : sp [.ref a] H (fun v _ => v = .bl true) fun _ _ _ => False) :
    codeAny (model P w) callerA (.call (.ref fa) ⟨[.ref a], []⟩) (Done s) s := by
  have clean : ∀ {b : Addr} {o : Obj}, s.heap.get? b = some o → (b = a → False) → (hidT s.heap H).get? b = some o := fun {b o} e n => hidT_get e (by
    cases q : H b with
    | none => rfl
    | some u => exact (n (hA b (by rw [q]; exact fun z => by cases z))).elim)
  have dict_ne : ∀ {b : Addr} {o : Obj} {es : Array DictEntry} {ep : Nat}, s.heap.get? b = some o → o.data = .dict es ep → b = a → False := fun {b o es ep} e d q => by
    subst q
    rw [ha] at e
    cases e
    cases d
  have ns_ : ∀ {b : Addr} {m : Str → Option Value}, s.heap.Ns b m → (hidT s.heap H).Ns b m := fun ⟨o, es, ep, e, d, r⟩ => ⟨o, es, ep, clean e (dict_ne e d), d, r⟩
  have kin2 : K.In (hidT s.heap H) := fun b o e => hidT_get (kin b o e) (by
    cases q : H b with
    | none => rfl
    | some u =>
      have z := hA b (by rw [q]; exact fun z => by cases z)
      subst z
      rw [hK (by rw [q]; exact fun z => by cases z)] at e
      cases e)
  obtain ⟨mc, c1, c2⟩ := lim
  have M : Mod K mg (hidT s.heap H) := ⟨kin2, ns_ hm, ⟨mb, ns_ hb, hbb⟩, mc, ns_ c1, c2⟩
  have E0 : Env0 P w K mg (hidT s.heap H) callerA [] s H := ⟨rfl, M, fun b o e => of_hidT e, Nat.le_of_eq (hidT_size _ _), trivial, (fun b h => by cases h), hok, .of_eq bare⟩
  refine codeAny_mono ((F _ kin2 (ns_ hm)).does callerA [] s H ⟨[.ref a], []⟩ [.ref a] [.ref a] _ _ rfl hr E0 (bind s (.ref a)) (.cons rfl .nil) hsp) fun r s' h => ?_
  match r, h with
  | .error _, h => exact h.elim
  | .ok .next, h => exact h.elim
  | .ok .brk, h => exact h.elim
  | .ok .cont, h => exact h.elim
  | .ok (.ret u), ⟨v, H', os, br, un, hok', r', q⟩ =>
    cases q
    cases r'
    refine ⟨rfl, OldK.of_keep fun b o e => ?_, os, br⟩
    rcases hO b with z | ⟨ob, xs, z⟩
    · exact un.keep b o e z (fun m => by cases m) (fun m => by cases m)
    · obtain ⟨e1, _⟩ := hok b _ z
      obtain ⟨e2, _⟩ := hok' b _ (un.frzs b ob _ z)
      rw [e] at e1
      cases e1
      exact e2
/-- the end of a law whose def shows things -/
theorem lawG {l : PySem.W.OpenLaw} {n : Nat} {q : Program} {loose : List Str} {XP : (Str → Option Value) → Heap → Prop} {YP : World → Heap → Prop} {d : DefRec} (hn : l.most = some n) (hn2 : n ≤ sizeLine) (hdf : d.params.defaults = []) (hr : Room k callerA)
    (F : ∀ (w : World) (mg : Str → Option Value) (fa : Addr) (h : Heap), YP w h → h.Ns mainGlobals mg → mg d.name = some (.ref fa) → ∃ (K : PySem.W.Frag) (fd : FuncData) (sp : Sp), K.In h ∧ (∀ (s : Shared) (u : Value), BindsTo s fd ⟨[u], []⟩ [(x, u)]) ∧
      (∀ (H : Hp) (a : Addr) (ns : List Int), ns.length ≤ n → Only H → SqL K H a (ns.map V.int) → sp [.ref a] H (fun v _ => v = .bl true) fun _ _ _ => False) ∧ ∀ base : Heap, K.In base → base.Ns mainGlobals mg → FnG l.prog w K mg base k fa fd [x] sp) :
    PySem.W.WalkO q loose XP YP l.row.toRowW d [] (fun f vs => PySem.call f vs) := by
  refine Att.attach_call hn hdf fun w s₀ s mg mb fa o pm cd doc a vs ns G Y _ _ _ hmg ha hi hlen bare => ?_
  obtain ⟨K, fd, sp, kin, bind, hsp, hF⟩ := F w mg fa _ Y G.T.g hmg
  have rv := vals_ints hi
  have lz : ns.length ≤ sizeLine := Nat.le_trans hlen hn2
  cases hk : K.lookup a with
  | some o =>
    have e := kin a o hk
    rw [ha] at e
    cases e
    have hS : SqL K (fun _ => none) a (ns.map V.int) := .inr ⟨_, vs.toArray, _, hk, rfl, rfl, rfl, by rw [List.size_toArray, hi.length]; exact lz, by simpa using rv⟩
    exact from_heap (fun _ => .inl rfl) hS (fun _ _ z => by cases z) (fun _ z => absurd rfl z) (fun z => absurd rfl z) kin G.T.g G.T.b G.T.builtins G.T.nolimit bare ha hr hF bind (hsp _ a ns hlen (fun _ => .inl rfl) hS)
  | none =>
    have hS : SqL K (upd (fun _ => none) a (.frz { cls := .type "list", data := .seq vs.toArray } (.lst (ns.map V.int)))) a (ns.map V.int) := .inl (.inr ⟨_, upd_same⟩)
    have hO : Only (upd (fun _ => none) a (.frz { cls := .type "list", data := .seq vs.toArray } (.lst (ns.map V.int)))) := fun b => by
      by_cases c : b = a
      · subst c; exact .inr ⟨_, _, upd_same⟩
      · exact .inl (by rw [upd_ne c])
    refine from_heap hO hS (fun b u z => ?_) (fun b z => ?_) (fun _ => hk) kin G.T.g G.T.b G.T.builtins G.T.nolimit bare ha hr hF bind (hsp _ a ns hlen hO hS)
    · by_cases c : b = a
      · subst c
        rw [upd_same] at z
        cases z
        exact ⟨ha, by rw [List.length_map]; exact lz, vs, _, rv, ha⟩
      · rw [upd_ne c] at z
        cases z
    · by_cases c : b = a
      · exact c
      · rw [upd_ne c] at z
        exact absurd rfl z
end Gd
/-! ### C(), a class without __init__ -/
namespace Gd
open PySem PySem.Spec PyProof.Rows L2 PySem.W
variable {X : Cx} {C : Addr} {x : Str} {p pos : Pos}
structure New0 (K : PySem.W.Frag) (C : Addr) : Prop where
  makes : makesIn K C = true
  kp : keepIn K (.ref C) = true
  init : findIn K (.ref C) "__init__" = some (some (.builtin "object.__init__"))
def tNew0 (C : Addr) : TE := fun _ H Q => ∀ x dx, H x = none → H dx = none → dx ≠ x → Q (.ref x) (upd (upd H dx (.own x)) x (.ins C dx []))
theorem pe_new0 (N : New0 X.K C) (hg : Gl X x) (hm : X.mg x = some (.ref C)) (hdb : (x == ("__debug__" : Str)) = false := by decide) : PE X (.Call (.Name x p) [] [] pos) (tNew0 C) := by
  refine ⟨fun pins s σ H Q I h => wpAny_Call_Name_kw (ld_glob I hg hm ?_ hdb)⟩
  have hq := h (s.heap.objs.size + 1) s.heap.objs.size (I.hok.fresh (Nat.le_succ _)) (I.hok.fresh (Nat.le_refl _)) (Nat.ne_of_lt (Nat.lt_succ_self _))
  have I2 := Inv.made (C := C) I
  have Y := makes_of (M := model X.prog X.w) I.kIn N.makes
  have lk : ((s.heap.push emptyDict).push (instObj C s.heap.objs.size)).get? (s.heap.objs.size + 1) = some (instObj C s.heap.objs.size) := by
    have e : s.heap.objs.size + 1 = (s.heap.push emptyDict).objs.size := (Heap.size_push _ _).symm
    rw [e]
    exact Heap.get?_push_size _ rfl
  have isC : Looks (model X.prog X.w) ((s.heap.push emptyDict).push (instObj C s.heap.objs.size)) (typeOf (.ref (s.heap.objs.size + 1))) (.ref C) := (Looks.ld lk).andThen .now
  have isO : Looks (model X.prog X.w) ((s.heap.push emptyDict).push (instObj C s.heap.objs.size)) (isInstance (.ref (s.heap.objs.size + 1)) (.type "object")) true :=
    isC.andThen (Y.top.keeps fun b o e => Heap.get?_push_of_some _ (Heap.get?_push_of_some _ e))
  refine callWith_K0 I.kIn N.kp (wpAny_call (make_map0 I.kIn N.makes N.init (fun self => Looks.of_pure (oi_bind self)) ?_))
  refine codeAny_call_builtin oi_plain entry_oi (check_slot oi_kind oi_split isO (oi_args _) ?_)
  rw [oi_run]
  exact wpAny_pure ⟨rfl, .ref _, _, I2, rfl, hq⟩
end Gd
/-! ### set(xs), the texts of xs all different, any number of them; len(set(xs)) -/
namespace Ts
open PySem PySem.Spec PyProof.Rows
section
variable {p : Program} {w : World} {A : Around} {R : Result → Shared → Prop} {E : Value → Shared → Prop} {I : Addr} {fp wr : List Addr} {G : Array GenState → Array GenState → Prop} {n : Nat} {P : Nat → Value → Prop} {St : Nat → Shared → Prop} {s : Shared}
/-- the first i of xs are in the set at S -/
def Has (p : Program) (w : World) (h : Heap) (S : Addr) (xs : List Str) (i : Nat) : Prop := h.SetOf (PySem.strKind p w) S (fun z => decide (z ∈ xs.take i)) i
theorem Has.at_ {h h' : Heap} {S : Addr} {xs : List Str} {i : Nat} (k : ∀ o, h.get? S = some o → h'.get? S = some o) : Has p w h S xs i → Has p w h' S xs i
  | ⟨o, es, ep, t, ho, r⟩ => ⟨o, es, ep, t, k o ho, r⟩
theorem Has.fresh {h : Heap} {S : Addr} {xs : List Str} {led : Bool} (e : h.get? S = some { cls := .type "set", dict := none, data := .set #[] 0 (.fresh 0 0 led) }) : Has p w h S xs 0 :=
  SetOf_congr ((setObjOf_fresh (knd := PySem.strKind p w) led).setOf e (by unfold scanBound; omega)) (fun k => by simp) rfl
theorem nodup_next {xs : List Str} {i : Nat} (nd : xs.Nodup) (hi : i < xs.length) : xs.getD i Str.empty ∉ xs.take i ∧ ∀ z, z ∈ xs.take (i + 1) ↔ z ∈ xs.take i ∨ z = xs.getD i Str.empty := by
  have eg : xs.getD i Str.empty = xs[i] := by rw [List.getD_eq_getElem?_getD, List.getElem?_eq_getElem hi]; rfl
  have et : xs.take (i + 1) = xs.take i ++ [xs[i]] := by rw [List.take_succ, List.getElem?_eq_getElem hi]; rfl
  rw [eg]
  refine ⟨fun hm => ?_, fun z => by rw [et, List.mem_append, List.mem_singleton]⟩
  have nd2 : (xs.take (i + 1)).Nodup := nd.sublist (List.take_sublist _ _)
  rw [et] at nd2
  exact (List.nodup_append.mp nd2).2.2 _ hm _ List.mem_cons_self rfl
/-- the loop: text behind text -/
theorem upd_strs (W : WalksS p w A.in1 I fp wr G n P St) {S : Addr} (hSf : S ∉ fp) {xs : List Str} (hn : xs.length = n) (nd : xs.Nodup) (hb : n + 1 < scanBound) (hval : ∀ i v, P i v → ∃ t, v = .str (xs.getD i Str.empty) t) :
    ∀ (j i : Nat) (s : Shared), i + j = n → St i s → Has p w s.heap S xs i → (∀ s', Moved (S :: wr) G s s' → Has p w s'.heap S xs n → R (.ok (.ret .none)) s') →
      codeAny (model p w) A (.builtin "set.update.loop" ⟨[.ref S, .ref I], []⟩) R s := by
  have nw : S ∉ wr := fun z => hSf (W.sub _ z)
  have up : ∀ b ∈ wr, b ∈ S :: wr := fun _ z => .tail _ z
  intro j
  induction j with
  | zero =>
    rintro i s rfl hs hS hR
    refine codeAny_builtin PyProof.Rows.F.entry_set_update_loop ?_
    rw [Around.under_plainId PyProof.Rows.F.plain_set_update_loop _]
    exact wpAny_bind (W.done s _ _ hs fun s' m => wpAny_pure (hR s' (m.mono up) (hS.at_ fun o e => m.heap S o nw e)))
  | succ j ih =>
    intro i s hij hs hS hR
    refine codeAny_builtin PyProof.Rows.F.entry_set_update_loop ?_
    rw [Around.under_plainId PyProof.Rows.F.plain_set_update_loop _]
    refine wpAny_bind (W.item i s _ _ (by omega) hs fun v s1 hP hs1 m => ?_)
    obtain ⟨t, rfl⟩ := hval i v hP
    have hS1 : Has p w s1.heap S xs i := hS.at_ fun o e => m.heap S o nw e
    obtain ⟨n1, n2⟩ := nodup_next (i := i) nd (by omega)
    show wpAny _ A.in1 (holding [Value.str (xs.getD i Str.empty) t] (setAdd S (.str (xs.getD i Str.empty) t)) >>= _) _ _ s1
    refine wpAny_bind (wpAny_holding ?_)
    unfold setAdd
    refine wpAny_holding (wpAny_bind ((PySem.strKind p w).pyHash (k := xs.getD i Str.empty) (strKind_is _ _ _ _) ?_))
    refine wpAny_setAddHashed_of (knd := PySem.strKind p w) (s := { s1 with toks := s1.toks + 1 }) (strKind_is _ _ _ _) rfl hS1 (by omega) fun h2 sb hS2 => ?_
    have hS3 : Has p w h2 S xs (i + 1) := SetOf_congr hS2 (fun z => by
      rw [Bool.eq_iff_iff]
      simp only [Bool.or_eq_true, decide_eq_true_eq]
      exact (n2 z).symm) (if_neg (by rw [decide_eq_true_eq]; exact n1))
    refine wpAny_pure ⟨plainId_quiet PyProof.Rows.F.plain_set_update_loop _, ih (i + 1) _ (by omega) (W.frame _ s1 _ _ hs1 (Nat.le_succ _) fun b hb' o e => ?_) hS3 fun s3 m3 hS4 => hR s3 (Moved.trans W.gtrans ((m.mono up).then_heap (Nat.le_succ _) fun b o nb e => ?_) m3) hS4⟩
    · exact (sb.2 b fun z => hSf (z ▸ hb')).trans e
    · exact (sb.2 b fun z => nb (z ▸ .head _)).trans e
end
/-- a set that was just laid -/
abbrev nset (led : Bool) : Obj := { cls := .type "set", dict := none, data := .set #[] 0 (.fresh 0 0 led) }

theorem set_list {p : Program} {w : World} {A : Around} {E : Value → Shared → Prop} {s : Shared} {l : Addr} {its : Array Value} {xs : List Str} {Q : Value → Shared → Prop} (hh : A.handled = none) (hl : s.heap.IsList l its) (hi : StrsAre its.toList xs) (nd : xs.Nodup) (hb : xs.length + 1 < scanBound)
    (h : ∀ (h' : Heap) (tk : Nat), Has p w h' s.heap.objs.size xs xs.length → (∀ b o, b < s.heap.objs.size → s.heap.get? b = some o → h'.get? b = some o) → Q (.ref s.heap.objs.size) { s with heap := h', toks := tk }) :
    wpAny (model p w) A (call (.type "set") [.ref l]) Q E s := by
  obtain ⟨c, tl, hmro⟩ := PySem.F.called_set.mro
  have f1 := PySem.F.called_set.made
  have f2 := PySem.F.called_set.sub
  have f3 := PySem.F.called_set.notType
  have f4 := PySem.F.called_set.canCreate
  have f5 := PySem.F.typeCall_set_1 (.ref l)
  refine wpAny_call (codeAny_of_tree ?_)
  show wpAny _ _ (callAny (.type "set") _) _ _ _
  refine wpAny_pure ⟨Code.quiet_builtin _ (by decide +kernel), codeAny_builtin PySem.F.entry_type_call ?_⟩
  rw [Around.under_plain (weight_type_call_type "set" [.ref l] []) rfl]
  repeat (any_goals (first | assumption | wp_step))
  refine codeAny_mono (code_set_new_1 (.ref l) (E := E) (Q₁ := fun u s₁ => ∃ led, u = .ref s.heap.objs.size ∧ s₁ = { s with heap := s.heap.push (nset led) }) fun led => ⟨led, rfl, rfl⟩) fun r s₁ hr => ?_
  match r, hr with
  | .error _, hr => exact hr
  | .ok .next, hr => exact hr.elim
  | .ok .brk, hr => exact hr.elim
  | .ok .cont, hr => exact hr.elim
  | .ok (.ret u), hr =>
  obtain ⟨led, rfl, rfl⟩ := hr
  have hS : (s.heap.push (nset led)).get? s.heap.objs.size = some (nset led) := Heap.get?_push_size _ rfl
  have hT : Shared.TypeIs { s with heap := s.heap.push (nset led) } (.ref s.heap.objs.size) "set" := ⟨_, hS, rfl⟩
  have g1 := PySem.F.called_set.init.lookup
  have g2 := PySem.F.called_set.init.bind (.ref s.heap.objs.size)
  repeat (any_goals (first | assumption | wp_step))
  refine codeAny_mono (codeAny_call_builtin (R := wants (fun r s₂ => r = .none ∧ ∃ h' tk, s₂ = { s with heap := h', toks := tk } ∧ Has p w h' s.heap.objs.size xs xs.length ∧ (∀ b o, b < s.heap.objs.size → s.heap.get? b = some o → h'.get? b = some o)) E) PySem.F.called_set.init.plain PySem.F.entry_set_init (check_set_init_1 hT ?_)) fun r₂ s₂ hr₂ => ?_
  · obtain ⟨⟨oc, od, dt, sl⟩, ho, hc, nl, hd⟩ := hl
    simp only at hc hd
    subst hc hd
    have ho' : (s.heap.push (nset led)).get? l = some { cls := .type "list", dict := od, data := .seq its nl, slots := sl } := Heap.get?_push_of_some _ ho
    have t1 := PySem.F.sub_list_set
    have t2 := PySem.F.sub_list_frozenset
    have t3 : (Value.type "list" == Value.type "dict") = false := by decide
    have hl1 : (s.heap.push (nset led)).IsList l its := ⟨_, ho', rfl, nl, rfl⟩
    unfold Builtin.«set.__init__» noKeywords Builtin.Frozenset.updateFrom
    generalize hPI : pyIter = PI
    wp_walk
    subst hPI
    have lt := Heap.lt_size ho
    have sz : (s.heap.push (nset led)).objs.size = s.heap.objs.size + 1 := Heap.size_push _ _
    have ne : l ≠ (s.heap.push (nset led)).objs.size := by rw [sz]; exact Nat.ne_of_lt (Nat.lt_succ_of_lt lt)
    refine wpAny_pyIter_list hl1 (wpAny_bind (wpAny_runValue ?_))
    refine upd_strs (xs := xs) (S := s.heap.objs.size) ((Walks.list (A := A.in1.in1.in1) (by simp [hh]) _ l ne its).toS) ?_ (by rw [← StrsAre.len_eq hi, Array.length_toList]) nd (by rw [← Array.length_toList, StrsAre.len_eq hi]; exact hb) (fun i v hv => SS.strs_at hi i v (by rw [Array.getElem?_toList]; exact hv)) its.size 0 _ (Nat.zero_add _)
      ⟨⟨_, Heap.get?_push_size _ rfl, rfl, rfl⟩, hl1.push _⟩ (.fresh (led := led) (Heap.get?_push_of_some _ hS)) ?_
    · rw [sz]
      simp only [List.mem_cons, List.not_mem_nil, or_false, not_or]
      exact ⟨Nat.ne_of_lt (Nat.lt_succ_self _), Nat.ne_of_gt lt⟩
    · rintro ⟨h', g', d', tk', os'⟩ m hS'
      obtain rfl : g' = s.gens := m.gens
      obtain rfl : d' = s.drawn := m.drawn
      obtain rfl : os' = s.os := m.os
      rw [show its.size = xs.length by rw [← Array.length_toList, StrsAre.len_eq hi]] at hS'
      refine wpAny_pure (wpAny_pure ⟨rfl, h', tk', rfl, hS', fun b o hb e => m.heap b o ?_ (Heap.get?_push_of_some _ (Heap.get?_push_of_some _ e))⟩)
      rw [sz]
      simp only [List.mem_cons, List.not_mem_nil, or_false, not_or]
      exact ⟨Nat.ne_of_lt hb, Nat.ne_of_lt (Nat.lt_succ_of_lt hb)⟩
  · match r₂, hr₂ with
    | .error _, hr₂ => exact hr₂
    | .ok .next, hr₂ => exact hr₂.elim
    | .ok .brk, hr₂ => exact hr₂.elim
    | .ok .cont, hr₂ => exact hr₂.elim
    | .ok (.ret r), hr₂ =>
      obtain ⟨rfl, h', tk, rfl, q1, q2⟩ := hr₂
      repeat (any_goals (first | assumption | wp_step))
      exact h _ _ q1 q2

theorem set_tuple {p : Program} {w : World} {A : Around} {E : Value → Shared → Prop} {s : Shared} {l : Addr} {its : Array Value} {xs : List Str} {Q : Value → Shared → Prop} (hh : A.handled = none) (hl : s.heap.IsTuple l its) (hi : StrsAre its.toList xs) (nd : xs.Nodup) (hb : xs.length + 1 < scanBound)
    (h : ∀ (h' : Heap) (tk : Nat), Has p w h' s.heap.objs.size xs xs.length → (∀ b o, b < s.heap.objs.size → s.heap.get? b = some o → h'.get? b = some o) → Q (.ref s.heap.objs.size) { s with heap := h', toks := tk }) :
    wpAny (model p w) A (call (.type "set") [.ref l]) Q E s := by
  obtain ⟨c, tl, hmro⟩ := PySem.F.called_set.mro
  have f1 := PySem.F.called_set.made
  have f2 := PySem.F.called_set.sub
  have f3 := PySem.F.called_set.notType
  have f4 := PySem.F.called_set.canCreate
  have f5 := PySem.F.typeCall_set_1 (.ref l)
  refine wpAny_call (codeAny_of_tree ?_)
  show wpAny _ _ (callAny (.type "set") _) _ _ _
  refine wpAny_pure ⟨Code.quiet_builtin _ (by decide +kernel), codeAny_builtin PySem.F.entry_type_call ?_⟩
  rw [Around.under_plain (weight_type_call_type "set" [.ref l] []) rfl]
  repeat (any_goals (first | assumption | wp_step))
  refine codeAny_mono (code_set_new_1 (.ref l) (E := E) (Q₁ := fun u s₁ => ∃ led, u = .ref s.heap.objs.size ∧ s₁ = { s with heap := s.heap.push (nset led) }) fun led => ⟨led, rfl, rfl⟩) fun r s₁ hr => ?_
  match r, hr with
  | .error _, hr => exact hr
  | .ok .next, hr => exact hr.elim
  | .ok .brk, hr => exact hr.elim
  | .ok .cont, hr => exact hr.elim
  | .ok (.ret u), hr =>
  obtain ⟨led, rfl, rfl⟩ := hr
  have hS : (s.heap.push (nset led)).get? s.heap.objs.size = some (nset led) := Heap.get?_push_size _ rfl
  have hT : Shared.TypeIs { s with heap := s.heap.push (nset led) } (.ref s.heap.objs.size) "set" := ⟨_, hS, rfl⟩
  have g1 := PySem.F.called_set.init.lookup
  have g2 := PySem.F.called_set.init.bind (.ref s.heap.objs.size)
  repeat (any_goals (first | assumption | wp_step))
  refine codeAny_mono (codeAny_call_builtin (R := wants (fun r s₂ => r = .none ∧ ∃ h' tk, s₂ = { s with heap := h', toks := tk } ∧ Has p w h' s.heap.objs.size xs xs.length ∧ (∀ b o, b < s.heap.objs.size → s.heap.get? b = some o → h'.get? b = some o)) E) PySem.F.called_set.init.plain PySem.F.entry_set_init (check_set_init_1 hT ?_)) fun r₂ s₂ hr₂ => ?_
  · obtain ⟨⟨oc, od, dt, sl⟩, ho, hc, nl, hd⟩ := hl
    simp only at hc hd
    subst hc hd
    have ho' : (s.heap.push (nset led)).get? l = some { cls := .type "tuple", dict := od, data := .seq its nl, slots := sl } := Heap.get?_push_of_some _ ho
    have t1 := PySem.F.sub_tuple_set
    have t2 := PySem.F.sub_tuple_frozenset
    have t3 : (Value.type "tuple" == Value.type "dict") = false := by decide
    have hl1 : (s.heap.push (nset led)).IsTuple l its := ⟨_, ho', rfl, nl, rfl⟩
    unfold Builtin.«set.__init__» noKeywords Builtin.Frozenset.updateFrom
    generalize hPI : pyIter = PI
    wp_walk
    subst hPI
    have lt := Heap.lt_size ho
    have sz : (s.heap.push (nset led)).objs.size = s.heap.objs.size + 1 := Heap.size_push _ _
    have ne : l ≠ (s.heap.push (nset led)).objs.size := by rw [sz]; exact Nat.ne_of_lt (Nat.lt_succ_of_lt lt)
    refine wpAny_pyIter_tuple hl1 (wpAny_bind (wpAny_runValue ?_))
    refine upd_strs (xs := xs) (S := s.heap.objs.size) ((Walks.tuple (A := A.in1.in1.in1) (by simp [hh]) _ l ne its).toS) ?_ (by rw [← StrsAre.len_eq hi, Array.length_toList]) nd (by rw [← Array.length_toList, StrsAre.len_eq hi]; exact hb) (fun i v hv => SS.strs_at hi i v (by rw [Array.getElem?_toList]; exact hv)) its.size 0 _ (Nat.zero_add _)
      ⟨⟨_, Heap.get?_push_size _ rfl, rfl, rfl⟩, hl1.push _⟩ (.fresh (led := led) (Heap.get?_push_of_some _ hS)) ?_
    · rw [sz]
      simp only [List.mem_cons, List.not_mem_nil, or_false, not_or]
      exact ⟨Nat.ne_of_lt (Nat.lt_succ_self _), Nat.ne_of_gt lt⟩
    · rintro ⟨h', g', d', tk', os'⟩ m hS'
      obtain rfl : g' = s.gens := m.gens
      obtain rfl : d' = s.drawn := m.drawn
      obtain rfl : os' = s.os := m.os
      rw [show its.size = xs.length by rw [← Array.length_toList, StrsAre.len_eq hi]] at hS'
      refine wpAny_pure (wpAny_pure ⟨rfl, h', tk', rfl, hS', fun b o hb e => m.heap b o ?_ (Heap.get?_push_of_some _ (Heap.get?_push_of_some _ e))⟩)
      rw [sz]
      simp only [List.mem_cons, List.not_mem_nil, or_false, not_or]
      exact ⟨Nat.ne_of_lt hb, Nat.ne_of_lt (Nat.lt_succ_of_lt hb)⟩
  · match r₂, hr₂ with
    | .error _, hr₂ => exact hr₂
    | .ok .next, hr₂ => exact hr₂.elim
    | .ok .brk, hr₂ => exact hr₂.elim
    | .ok .cont, hr₂ => exact hr₂.elim
    | .ok (.ret r), hr₂ =>
      obtain ⟨rfl, h', tk, rfl, q1, q2⟩ := hr₂
      repeat (any_goals (first | assumption | wp_step))
      exact h _ _ q1 q2
end Ts
namespace L2
open PySem PySem.Spec PyProof.Rows
/-- len(set(xs)), texts all different -/
def tLenSetN (K : PySem.W.Frag) (ta : TE) : TE := fun σ H Q => ta σ H fun x H1 => ∃ (l : Addr) (xs : List Str), x = .ref l ∧ (SqL K H1 l (xs.map V.str) ∨ SqT K H1 l (xs.map V.str)) ∧ xs.Nodup ∧ xs.length + 1 < scanBound ∧ Q (.int xs.length) H1
theorem pe_lenSetN {X : Cx} {K : PySem.W.Frag} {a : Expr} {ta : TE} {p p2 q pos : Pos} (hK : X.K = K) (hc : X.calm = true) (hg : Gl X "len") (hm : X.mg "len" = none) (hg2 : Gl X "set") (hm2 : X.mg "set" = none) (ha : PE X a ta)
    (na : starEach [a] X.env = (false, eval a X.env) :: starEach [] X.env := by rfl) : PE X (.Call (.Name "len" p) [.Call (.Name "set" p2) [a] [] q] [] pos) (tLenSetN K ta) := by
  subst hK
  refine ⟨fun pins s σ H Q I h => ?_⟩
  refine Call_ (ld_blt I hg hm boot_len (callWith_builtin1 (args_cons ?_ rfl) rfl rfl))
  refine Call_ (ld_blt I hg2 hm2 boot_set (callWith_type1 (args_cons (thn (ha.run pins s σ H _ I h) fun v s1 ⟨x, H1, I1, r1, l, xs, e, hq, nd, hb, q1⟩ => args_nil ?_) na) na rfl))
  subst e
  cases r1
  have fin : ∀ (h' : Heap) (tk : Nat), Ts.Has X.prog X.w h' s1.heap.objs.size xs xs.length → (∀ b o, b < s1.heap.objs.size → s1.heap.get? b = some o → h'.get? b = some o) →
      wpAny (model X.prog X.w) X.A (spliced (backTo pos (starEach [] X.env))) (fun vs s₂ => wpAny (model X.prog X.w) X.A (call (.builtin "len") (Value.ref s1.heap.objs.size :: vs)) (EP X pins σ Q) X.xe s₂) X.xe { s1 with heap := h', toks := tk } := fun h' tk hS hk => by
    obtain ⟨o, es, ep, t, ho, hex, hd, _, _, _, hf, hn⟩ := hS
    have I2 : Inv X pins σ H1 { s1 with heap := h', toks := tk } := I1.kept fun b o e => hk b o (Heap.lt_size e) e
    exact args_nil (call_len_set ho hex hd hf (by rw [hn]; unfold scanBound at hb; omega) ⟨.int xs.length, H1, I2.tok _, ⟨_, by rw [hn]⟩, q1⟩)
  rcases hq with hq | hq
  · obtain ⟨its, r, pl, _⟩ := I1.list hq
    exact Ts.set_list (I1.ok.hd hc) pl.isList (by simpa using strsAre_of r) nd hb fin
  · obtain ⟨its, r, pl, _⟩ := I1.tuple hq
    exact Ts.set_tuple (I1.ok.hd hc) pl (by simpa using strsAre_of r) nd hb fin
end L2
namespace Bs
open PySem PySem.Spec PyProof.Rows L2
variable {X : Cx} {K : PySem.W.Frag}
/-- a statement that is never reached -/
def tNo : TS := fun _ _ _ => False
theorem ps_no {st : Stmt} : PS X st tNo := ⟨fun _ _ _ _ _ _ h => h.elim⟩
/-- o.m(e, ..) of a built-in thing, the written part named -/
theorem pe_bmK {o e : Expr} {es : List Expr} {to : TE} {t : TA} {name : Str} {apos cpos : Pos} {T id : String} {r : V → List V → Hp → VK → Prop} (hK : X.K = K) (pa : PlainAttrs T) (slot : Slot T name id) (hty : typeOf (.builtin id) = pure (.type "method_descriptor")) (hm : MtR X id r) (ho : PE X o to) (ha : PA X (e :: es) t)
    (hbase : attributeBase o name X.env (eval o X.env) = eval o X.env := by rfl)
    (hfew : ((backTo cpos (starEach (e :: es) X.env)).all (fun x => !x.1) && (backToKw cpos (keywordEach [] X.env)).all (fun x => x.1.isSome)
      && decide ((e :: es).length + ([] : List Keyword).length + (if ([] : List Keyword).isEmpty then 0 else 1) < 30)) = true := by rfl)
    (hline : (apos.endLine == cpos.line) = true := by rfl) (hs : starEach (e :: es) X.env = (false, eval e X.env) :: starEach es X.env := by rfl) (hplain : (backTo cpos (starEach es X.env)).any (·.1) = false := by rfl) :
    PE X (.Call (.Attribute o name apos) (e :: es) [] cpos) (tBM K T r to t) := by
  subst hK
  exact pe_bm pa slot hty hm ho ha hbase hfew hline hs hplain
/-- x in a tuple of data -/
def rInDT (K : PySem.W.Frag) : R2 := fun x y H Q => ∃ d ds, Dp K H x d ∧ Dp K H y (.tuple ds) ∧ SeqAt.shaped d = true ∧ SeqAt.shaped (.tuple ds) = true ∧ Q (.bl (ds.any fun z => PyData.eqv z d)) H
theorem op_inDT (hu : X.A.units + 65 < cLine) : OpR X (compareOp .In) (rInDT X.K) := by
  intro pins s σ H x y v u Q I rx ry h
  obtain ⟨d, ds, hd, he, sd, se, q⟩ := h
  obtain ⟨as, r1⟩ := Dp.reads I d x v hd rx
  obtain ⟨bs, r2⟩ := Dp.reads I (.tuple ds) y u he ry
  exact SeqAt.in_tuple_reads r2 r1 (SeqAt.canLay_of_shaped se) (SeqAt.canLay_of_shaped sd) (room_in_shaped sd hu) ⟨.bl _, H, I, rfl, q⟩
/-- C(e, .., k = v, ..) -/
structure MakP (P : Program) (w : World) (K : PySem.W.Frag) (mg : Str → Option Value) (base : Heap) (k : Nat) (x : Str) (C : Addr) (n : Nat) (ks : List Str) (gV : List V → List V → List V) (sp : Sp) : Prop where
  ex : ∃ (f : Addr) (fd : FuncData) (ps : List Str) (g : List Value → List Value → List Value), Mk K C f ∧ FnOk P w K mg base C8.CX0 k f fd ps sp ∧ mg x = some (.ref C) ∧ KBn K fd ps (n + 1) ks g gV
section
variable {k j n : Nat} {x m : Str} {sp : Sp} {ks : List Str} {gV : List V → List V → List V} {p pos apos : Pos} {kws : List Keyword} {t tk : TA} {C f : Addr} {e o : Expr} {es : List Expr} {ta : TE}
theorem pe_mkp (c : MakP X.prog X.w X.K X.mg X.base k x C n ks gV sp) (hr : Room j X.A) (hk : k + 1 ≤ j) (hg : Gl X x) (ha : PA X (e :: es) t) (hkw : PK X kws tk)
    (hall : (backToKw pos (keywordEach kws X.env)).all (·.1.isSome) = true := by rfl) (hks : (backToKw pos (keywordEach kws X.env)).filterMap (·.1) = ks := by rfl) (hdb : (x == ("__debug__" : Str)) = false := by decide)
    (he : starEach (e :: es) X.env = (false, eval e X.env) :: starEach es X.env := by rfl) (hpl : ((backTo pos (starEach (e :: es) X.env)).any (·.1) || (backToKw pos (keywordEach kws X.env)).any (·.1.isNone)) = false := by rfl) :
    PE X (.Call (.Name x p) (e :: es) kws pos) (tMakeK C n ks.length sp gV C8.E0 t tk) := by
  obtain ⟨f, fd, ps, g, M, F, hm, hb⟩ := c.ex
  exact pe_makeK M F (hr.mono hk) hg hm hb C8.pass0 ha hkw hall hks hdb he hpl
/-- o.m(e, ..), m a method with a star -/
structure MetR (P : Program) (w : World) (K : PySem.W.Frag) (mg : Str → Option Value) (base : Heap) (k : Nat) (C : Addr) (m : Str) (sp : Sp) : Prop where
  ex : ∃ f : Addr, Cls K C ∧ Meth K C m f ∧ FnR P w K mg base C8.CX0 k f sp
def tMethR (C : Addr) (m : Str) (sp : Sp) (ta : TE) (t : TA) : TE := fun σ H Q => ta σ H fun x H1 => ∃ a dx fs, x = .ref a ∧ H1 a = some (.ins C dx fs) ∧ fs.lookup m = none ∧ t σ H1 fun vs H2 => sp (x :: vs) H2 Q C8.E0
theorem pe_mtr {pl : Sem Bool} (c : MetR X.prog X.w X.K X.mg X.base k C m sp) (hr : Room j X.A) (hk : k ≤ j) (he : PE X o ta) (ha : PA X (e :: es) t)
    (hst : starEach (e :: es) X.env = (false, eval e X.env) :: starEach es X.env := by rfl) (hpl : (backTo pos (starEach es X.env)).any (·.1) = false := by rfl)
    (ht : eval (.Call (.Attribute o m apos) (e :: es) [] pos) X.env = (do
      let ov ← eval o X.env
      standAt apos.atName
      let (f, first) ← holding [ov] (getMethod ov m pl)
      callWith pos f first (backTo pos (starEach (e :: es) X.env)) (backToKw pos (keywordEach [] X.env))) := by rfl) : PE X (.Call (.Attribute o m apos) (e :: es) [] pos) (tMethR C m sp ta t) := by
  obtain ⟨f, c1, hm, F⟩ := c.ex
  refine ⟨fun pins s σ H Q I h => ?_⟩
  refine PySem.W.methodCall_KW (pl := pl) (thn (he.run pins s σ H _ I h) fun u s1 ⟨x, H1, I1, rx, a, dx, fs, ex, ea, l, q⟩ => ?_) ht
  subst ex
  obtain rfl : u = Value.ref a := rx
  refine getmeth_ok I1 ea c1 hm l ?_
  refine PySem.W.callWith_K (first := [.ref a]) (h₀ := X.base) I.ok.mod.kin hm.kp (thn (ha.run pos pins s1 σ H1 _ I1 q) fun us s2 ⟨vs, H2, I2, r, q2⟩ => ⟨I2.kIn, ?_⟩) hst hpl
  exact wpAny_call (run_fnR (us := .ref a :: us) (vs := .ref a :: vs) F (hr.mono hk) C8.pass0 I2 (.cons rfl r) q2)
theorem pe_mtr0 {pl : Sem Bool} (c : MetR X.prog X.w X.K X.mg X.base k C m sp) (hr : Room j X.A) (hk : k ≤ j) (he : PE X o ta)
    (ht : eval (.Call (.Attribute o m apos) [] [] pos) X.env = (do
      let ov ← eval o X.env
      standAt apos.atName
      let (f, first) ← holding [ov] (getMethod ov m pl)
      callWith pos f first (backTo pos (starEach [] X.env)) (backToKw pos (keywordEach [] X.env))) := by rfl) : PE X (.Call (.Attribute o m apos) [] [] pos) (tMethR C m sp ta tNil) := by
  obtain ⟨f, c1, hm, F⟩ := c.ex
  refine ⟨fun pins s σ H Q I h => ?_⟩
  refine PySem.W.methodCall_KW (pl := pl) (thn (he.run pins s σ H _ I h) fun u s1 ⟨x, H1, I1, rx, a, dx, fs, ex, ea, l, q⟩ => ?_) ht
  subst ex
  obtain rfl : u = Value.ref a := rx
  refine getmeth_ok I1 ea c1 hm l ?_
  exact PySem.W.callWith_K0 (first := [.ref a]) I1.kIn hm.kp (wpAny_call (run_fnR (us := [.ref a]) (vs := [.ref a]) F (hr.mono hk) C8.pass0 I1 (.cons rfl .nil) q))
end
end Bs
namespace Bs
open PySem PySem.Spec PyProof.Rows L2 SX
variable {P : Program} {w : World} {K : PySem.W.Frag} {mg : Str → Option Value} {base : Heap}
/-! ### the part of the heap that never changes again -/
def KpO (p : Option Addr) (H H' : Hp) : Prop := ∀ b o, H b = some o → some b ≠ p → H' b = some o
structure Step (p : Option Addr) (G H G' H' : Hp) : Prop where
  gg : Same G G'
  gh : Same G' H'
  new : ∀ b, G' b ≠ none → G b ≠ none ∨ H b = none
  kp : KpO p H H'
  pp : ∀ b, some b = p → H b ≠ none → H' b ≠ none
section
variable {p : Option Addr} {G H G1 H1 G2 H2 : Hp} {q : Addr} {o : HO}
theorem Step.refl (h : Same G H) : Step p G H G H := ⟨Same.refl G, h, fun b hb => .inl hb, fun b o e _ => e, fun b _ e => e⟩
theorem Step.keep (a : Step p G H G1 H1) {b : Addr} (hb : H b ≠ none) : H1 b ≠ none := by
  by_cases e : some b = p
  · exact a.pp b e hb
  · cases eh : H b with
    | none => exact absurd eh hb
    | some o => rw [a.kp b o eh e]; exact fun z => by cases z
theorem Step.free (a : Step p G H G1 H1) {b : Addr} (hb : H1 b = none) : H b = none := by
  cases eh : H b with
  | none => rfl
  | some o => exact absurd hb (a.keep (by rw [eh]; exact fun z => by cases z))
theorem Step.trans (a : Step p G H G1 H1) (b : Step p G1 H1 G2 H2) : Step p G H G2 H2 where
  gg := a.gg.trans b.gg
  gh := b.gh
  new c hc := by
    rcases b.new c hc with h | h
    · exact a.new c h
    · exact .inr (a.free h)
  kp c o e n := b.kp c o (a.kp c o e n) n
  pp c e h := b.pp c e (a.pp c e h)
theorem Step.out (a : Step p G H G1 H1) {b : Addr} (h1 : G b = none) (h2 : H b ≠ none) : G1 b = none := by
  cases e : G1 b with
  | none => rfl
  | some o =>
    rcases a.new b (by rw [e]; exact fun z => by cases z) with h | h
    · exact absurd h1 h
    · exact absurd h h2
theorem same_none (h : Same G H) (hq : H q = none) : G q = none := h.free hq
/-- a new object that will never change -/
theorem Step.new_ (a : Step p G H G1 H1) (hq : H1 q = none) : Step p G H (upd G1 q o) (upd H1 q o) where
  gg := Same.new a.gg (same_none a.gh hq)
  gh b u e := by
    by_cases c : b = q
    · subst c; rw [upd_same] at e ⊢; exact e
    · rw [upd_ne c] at e ⊢; exact a.gh b u e
  new b hb := by
    by_cases c : b = q
    · subst c; exact .inr (a.free hq)
    · rw [upd_ne c] at hb; exact a.new b hb
  kp b u e n := by
    have h := a.kp b u e n
    rw [upd_ne (ne_of_none h hq)]; exact h
  pp b e h := by
    have z := a.pp b e h
    have c : b ≠ q := fun c => z (by rw [c]; exact hq)
    rw [upd_ne c]; exact z
/-- an object that may change stands or changes at q, which was free at the start -/
theorem Step.loc (a : Step p G H G1 H1) (hq : H q = none) (gq : G1 q = none) : Step p G H G1 (upd H1 q o) where
  gg := a.gg
  gh b u e := by rw [upd_ne (ne_of_none e gq)]; exact a.gh b u e
  new := a.new
  kp b u e n := by rw [upd_ne (ne_of_none e hq)]; exact a.kp b u e n
  pp b e h := by
    have c : b ≠ q := fun c => h (by rw [c]; exact hq)
    rw [upd_ne c]; exact a.pp b e h
/-- what stands at a local q will never change again -/
theorem Step.freeze (a : Step p G H G1 H1) (hq : H q = none) (h : H1 q = some o) (gq : G1 q = none) : Step p G H (upd G1 q o) H1 where
  gg := Same.new a.gg gq
  gh b u e := by
    by_cases c : b = q
    · subst c; rw [upd_same] at e; rw [h]; exact e
    · rw [upd_ne c] at e; exact a.gh b u e
  new b hb := by
    by_cases c : b = q
    · subst c; exact .inr hq
    · rw [upd_ne c] at hb; exact a.new b hb
  kp := a.kp
  pp := a.pp
theorem Step.same (a : Step none G H G1 H1) : Same H H1 := fun b o e => a.kp b o e (fun z => by cases z)
theorem Step.some_ {c : Addr} (a : Step none G H G1 H1) : Step (some c) G H G1 H1 := ⟨a.gg, a.gh, a.new, fun b o e _ => a.same b o e, fun b _ h => by
  cases eh : H b with
  | none => exact absurd eh h
  | some o => rw [a.same b o eh]; exact fun z => by cases z⟩
theorem Kp.step {c : Addr} (k : Kp c H H1) (h : Same G H) (gc : G c = none) (hc : H c ≠ none → H1 c ≠ none) : Step (some c) G H G H1 where
  gg := Same.refl G
  gh b o e := k b o (h b o e) (ne_of_none e gc)
  new b hb := .inl hb
  kp b o e n := k b o e (fun z => n (by rw [z]))
  pp b e h := by rw [Option.some.inj e] at h ⊢; exact hc h
theorem Step.kpc {c : Addr} (a : Step (some c) G H G1 H1) : Kp c H H1 := fun b o e n => a.kp b o e fun z => n (Option.some.inj z)
end
/-- the pen stands at p, outside of what never changes -/
structure Ps (K : PySem.W.Frag) (G H : Hp) (p : Addr) (n : Nat) : Prop where
  gh : Same G H
  out : G p = none
  pen : Pen K H p n
theorem Ps.step {G H G1 H1 : Hp} {p : Addr} {n m : Nat} (a : Ps K G H p n) (s : Step (some p) G H G1 H1) (h : Pen K H1 p m) : Ps K G1 H1 p m := ⟨s.gh, s.out a.out a.pen.there, h⟩
theorem Ps.stepN {G H G1 H1 : Hp} {p : Addr} {n : Nat} (a : Ps K G H p n) (s : Step none G H G1 H1) : Ps K G1 H1 p n := ⟨s.gh, s.out a.out a.pen.there, a.pen.same s.same⟩
theorem Ps.draw {G H H1 : Hp} {p : Addr} {n : Nat} (a : Ps K G H p n) (k : Kp p H H1) (h : Pen K H1 p (n + 1)) : Step (some p) G H G H1 ∧ Ps K G H1 p (n + 1) := by
  have s : Step (some p) G H G H1 := Kp.step k a.gh a.out fun _ => h.there
  exact ⟨s, a.step s h⟩
theorem Ps.new_ {G H : Hp} {p q : Addr} {n : Nat} {o : HO} (a : Ps K G H p n) (hq : H q = none) : Step (some p) G H (upd G q o) (upd H q o) ∧ Ps K (upd G q o) (upd H q o) p n := by
  have s : Step none G H (upd G q o) (upd H q o) := (Step.refl a.gh).new_ hq
  exact ⟨s.some_, a.stepN s⟩
theorem Ps.mono {G H : Hp} {p : Addr} {n m : Nat} (a : Ps K G H p n) (h : n ≤ m) : Ps K G H p m := ⟨a.gh, a.out, a.pen.mono h⟩
/-! ### terms -/
inductive So where
  | row | column | place | zero | func | rule
  deriving DecidableEq
def So.s : So → Str
  | .row => "row"
  | .column => "column"
  | .place => "place"
  | .zero => "zero"
  | .func => "function"
  | .rule => "rule"
inductive Mt where
  | mk (so : So) (w : List Nat) (ts : List Mt) (b : Bool)
def tx (so : So) (w : List Nat) (xs : List (List Nat)) (b : Bool) : List Nat := match so with
  | .row => if b = true then w ++ [39] else w
  | .column => xs.headD [] ++ [46] ++ w
  | .place => [64] ++ xs.headD []
  | .zero => [48]
  | .func => w ++ [40] ++ TL.joinL [44, 32] xs ++ [41]
  | .rule => w ++ [91] ++ TL.joinL [44, 32] xs ++ [93]
def Mt.txt : Mt → List Nat
  | .mk so w ts b => tx so w (ts.map Mt.txt) b
theorem Mt.txt_mk (so : So) (w : List Nat) (ts : List Mt) (b : Bool) : (Mt.mk so w ts b).txt = tx so w (ts.map Mt.txt) b := by rw [Mt.txt]
def Mt.dep : Mt → Nat
  | .mk _ _ ts _ => 1 + (ts.map Mt.dep).foldr max 0
theorem Mt.dep_mk (so : So) (w : List Nat) (ts : List Mt) (b : Bool) : (Mt.mk so w ts b).dep = 1 + (ts.map Mt.dep).foldr max 0 := by rw [Mt.dep]
theorem fold_max {l : List Nat} {x : Nat} (h : x ∈ l) : x ≤ l.foldr max 0 := by
  induction l with
  | nil => cases h
  | cons y r ih =>
    rw [List.foldr_cons]
    rcases List.mem_cons.mp h with h | h
    · rw [h]; exact Nat.le_max_left ..
    · exact Nat.le_trans (ih h) (Nat.le_max_right ..)
theorem Mt.dep_part {so : So} {w : List Nat} {ts : List Mt} {b : Bool} {t : Mt} (h : t ∈ ts) : t.dep < (Mt.mk so w ts b).dep := by
  rw [Mt.dep_mk]
  have := fold_max (List.mem_map_of_mem (f := Mt.dep) h)
  omega
/-- the law's own tuples of a term, all below what never changes -/
inductive MAt (G : Hp) : V → Mt → Prop where
  | mk {a p : Addr} {so : So} {w : List Nat} {vs : List V} {ts : List Mt} {b : Bool} (ha : G a = some (.tup [.str so.s, .str (S w), .ref p, .bl b])) (hp : G p = some (.tup vs)) (hl : vs.length = ts.length)
      (h : ∀ (i : Nat) (v : V) (t : Mt), vs[i]? = some v → ts[i]? = some t → MAt G v t) : MAt G (.ref a) (.mk so w ts b)
theorem MAt.same {G G' : Hp} (s : Same G G') : ∀ {v : V} {t : Mt}, MAt G v t → MAt G' v t := fun h => by
  induction h with
  | mk ha hp hl _ ih => exact .mk (s _ _ ha) (s _ _ hp) hl ih
/-- the program's term objects -/
def tf (so : So) (w : List Nat) (l : Addr) (b : Bool) (t : List Nat) (d : Nat) : List (Str × V) :=
  putF "_depth" (.int (d : Nat)) (putF "text" (.str (S t)) (putF "marked" (.bl b) (putF "parts" (.ref l) (putF "name" (.str (S w)) (putF "kind" (.str so.s) [])))))
inductive TAt (C : Addr) (G : Hp) : V → Mt → Prop where
  | mk {a dx l : Addr} {so : So} {w : List Nat} {vs : List V} {ts : List Mt} {b : Bool} (ha : G a = some (.ins C dx (tf so w l b (tx so w (ts.map Mt.txt) b) (1 + (ts.map Mt.dep).foldr max 0)))) (hp : G l = some (.lst vs)) (hl : vs.length = ts.length)
      (h : ∀ (i : Nat) (v : V) (t : Mt), vs[i]? = some v → ts[i]? = some t → TAt C G v t) : TAt C G (.ref a) (.mk so w ts b)
theorem TAt.same {C : Addr} {G G' : Hp} (s : Same G G') : ∀ {v : V} {t : Mt}, TAt C G v t → TAt C G' v t := fun h => by
  induction h with
  | mk ha hp hl _ ih => exact .mk (s _ _ ha) (s _ _ hp) hl ih
section
variable {so : So} {w : List Nat} {l : Addr} {b : Bool} {t : List Nat} {d : Nat}
theorem tf_depth : (tf so w l b t d).lookup ("_depth" : Str) = some (.int (d : Nat)) := by unfold tf; rw [lookup_putF, if_pos rfl]
theorem tf_text : (tf so w l b t d).lookup ("text" : Str) = some (.str (S t)) := by unfold tf; rw [lookup_putF, if_neg (by decide +kernel), lookup_putF, if_pos rfl]
theorem tf_marked : (tf so w l b t d).lookup ("marked" : Str) = some (.bl b) := by unfold tf; rw [lookup_putF, if_neg (by decide +kernel), lookup_putF, if_neg (by decide +kernel), lookup_putF, if_pos rfl]
theorem tf_parts : (tf so w l b t d).lookup ("parts" : Str) = some (.ref l) := by unfold tf; rw [lookup_putF, if_neg (by decide +kernel), lookup_putF, if_neg (by decide +kernel), lookup_putF, if_neg (by decide +kernel), lookup_putF, if_pos rfl]
theorem tf_name : (tf so w l b t d).lookup ("name" : Str) = some (.str (S w)) := by unfold tf; rw [lookup_putF, if_neg (by decide +kernel), lookup_putF, if_neg (by decide +kernel), lookup_putF, if_neg (by decide +kernel), lookup_putF, if_neg (by decide +kernel), lookup_putF, if_pos rfl]
theorem tf_kind : (tf so w l b t d).lookup ("kind" : Str) = some (.str so.s) := by unfold tf; rw [lookup_putF, if_neg (by decide +kernel), lookup_putF, if_neg (by decide +kernel), lookup_putF, if_neg (by decide +kernel), lookup_putF, if_neg (by decide +kernel), lookup_putF, if_neg (by decide +kernel), lookup_putF, if_pos rfl]
end
theorem Same.off {G H : Hp} {q : Addr} {o : HO} (s : Same G H) (h : G q = none) : Same G (upd H q o) := fun b u e => by rw [upd_ne (ne_of_none e h)]; exact s b u e
theorem max_is {l : List Nat} {m : Int} (h0 : l.map (fun (n : Nat) => (n : Int)) = [] → m = 0) (h1 : l.map (fun (n : Nat) => (n : Int)) ≠ [] → m ∈ l.map (fun (n : Nat) => (n : Int)) ∧ ∀ k ∈ l.map (fun (n : Nat) => (n : Int)), k ≤ m) : m = ((l.foldr max 0 : Nat) : Int) := by
  cases l with
  | nil => exact h0 rfl
  | cons x r =>
    obtain ⟨hm, ha⟩ := h1 (fun z => by cases z)
    obtain ⟨n, hn, rfl⟩ := List.mem_map.mp hm
    have up := fold_max hn
    have dn : (x :: r).foldr max 0 ≤ n := by
      have all : ∀ y ∈ x :: r, y ≤ n := fun y hy => by
        have := ha _ (List.mem_map_of_mem (f := fun (n : Nat) => (n : Int)) hy)
        omega
      have gen : ∀ q : List Nat, (∀ y ∈ q, y ≤ n) → q.foldr max 0 ≤ n := fun q => by
        induction q with
        | nil => intro _; exact Nat.zero_le _
        | cons z s ih =>
          intro h
          rw [List.foldr_cons]
          exact Nat.max_le.mpr ⟨h z List.mem_cons_self, ih fun y hy => h y (List.mem_cons_of_mem _ hy)⟩
      exact gen _ all
    exact congrArg (fun (n : Nat) => (n : Int)) (Nat.le_antisymm up dn)
end Bs
namespace Bs
open PySem PySem.Spec PyProof.Rows L2 SX
/-! ### names, lies, tables: what they are, their rows, and that a row tells its table -/
def W29 : List Str := ["table", "key", "dealt", "anyhow", "copied", "zero", "scan", "where", "compute", "equal", "keep", "distinct", "group", "with", "count", "sum", "sort", "own", "split", "broadcast", "gather", "merge", "join", "semi", "anti", "union", "answer", "in", "self"]
def WD : List (List Nat) := W29.map fun x => x.cps.toList
def sgB (c : Nat) : Bool := decide (97 ≤ c ∧ c ≤ 122) || (decide (48 ≤ c ∧ c ≤ 57) || decide (c = 95))
structure Nm (w : List Nat) : Prop where
  len : w.length ≤ 8
  hd : ∃ c r, w = c :: r ∧ 97 ≤ c ∧ c ≤ 122
  sg : ∀ c ∈ w, sgB c = true
  no : w ∉ WD
def nmB (w : List Nat) : Bool := decide (w.length ≤ 8) && ((match w with | c :: _ => decide (97 ≤ c ∧ c ≤ 122) | [] => false) && (w.all sgB && decide (w ∉ WD)))
theorem nm_of {w : List Nat} (h : nmB w = true) : Nm w := by
  obtain ⟨h1, h⟩ := Bool.and_eq_true_iff.mp h
  obtain ⟨h2, h⟩ := Bool.and_eq_true_iff.mp h
  obtain ⟨h3, h4⟩ := Bool.and_eq_true_iff.mp h
  refine ⟨of_decide_eq_true h1, ?_, List.all_eq_true.mp h3, of_decide_eq_true h4⟩
  cases w with
  | nil => cases h2
  | cons c r => exact ⟨c, r, rfl, (of_decide_eq_true h2).1, (of_decide_eq_true h2).2⟩
theorem Nm.pos {w : List Nat} (h : Nm w) : 0 < w.length := by
  obtain ⟨c, r, rfl, _⟩ := h.hd
  simp
theorem Nm.noW {w : List Nat} (h : Nm w) : S w ∉ W29 := fun z => h.no (List.mem_map.mpr ⟨S w, z, by simp [S]⟩)
theorem sg_lt {c : Nat} (h : sgB c = true) : c < 128 ∧ c ≠ 32 := by
  unfold sgB at h
  simp only [Bool.or_eq_true, decide_eq_true_eq] at h
  omega
inductive Lie where
  | copied | anyhow | zero
  | dealt (r : List Nat) (ds : List (List Nat))
deriving DecidableEq
def Lie.hd : Lie → List Nat
  | .copied => [99, 111, 112, 105, 101, 100]
  | .anyhow => [97, 110, 121, 104, 111, 119]
  | .zero => [122, 101, 114, 111]
  | .dealt _ _ => [100, 101, 97, 108, 116]
def Lie.tl : Lie → List (List Nat)
  | .dealt r ds => r :: ds
  | _ => []
structure Br where
  n : List Nat
  cs : List (List Nat)
  ky : List (List Nat)
  li : Lie
deriving DecidableEq
structure Sub (ks cs : List (List Nat)) : Prop where
  mem : ∀ k ∈ ks, k ∈ cs
  nd : ks.Nodup
structure OkL (cs : List (List Nat)) (l : Lie) : Prop where
  d : ∀ r ds, l = .dealt r ds → Nm r ∧ Sub ds cs ∧ 1 ≤ ds.length ∧ ds.length ≤ 3
structure OkC (cs : List (List Nat)) : Prop where
  nm : ∀ c ∈ cs, Nm c
  nd : cs.Nodup
  lo : 1 ≤ cs.length
  hi : cs.length ≤ 8
structure Ok (b : Br) : Prop where
  n : Nm b.n
  c : OkC b.cs
  k : Sub b.ky b.cs
  l : OkL b.cs b.li
theorem nodup_len {α : Type} [DecidableEq α] : ∀ {ks cs : List α}, ks.Nodup → (∀ k ∈ ks, k ∈ cs) → ks.length ≤ cs.length
  | [], _, _, _ => Nat.zero_le _
  | k :: r, cs, nd, h => by
    have hk := h k List.mem_cons_self
    have ih := nodup_len (ks := r) (cs := cs.erase k) (List.nodup_cons.mp nd).2 fun z hz => (List.mem_erase_of_ne (fun e : z = k => (List.nodup_cons.mp nd).1 (by rw [← e]; exact hz))).mpr (h z (List.mem_cons_of_mem _ hz))
    rw [List.length_erase_of_mem hk] at ih
    have := List.length_pos_of_mem hk
    simp only [List.length_cons]
    omega
theorem Sub.le {ks cs : List (List Nat)} (h : Sub ks cs) : ks.length ≤ cs.length := nodup_len h.nd h.mem
def kyW : List Nat := [107, 101, 121]
def tbW : List Nat := [116, 97, 98, 108, 101]
def rest (ky : List (List Nat)) (l : Lie) : List (List Nat) := (if ky = [] then [] else kyW :: ky) ++ l.hd :: l.tl
def words (b : Br) : List (List Nat) := tbW :: b.n :: (b.cs ++ rest b.ky b.li)
def txtB (b : Br) : List Nat := TL.joinL [32] (words b)
theorem split_at {x : Nat} : ∀ {p q a b : List Nat}, x ∉ p → x ∉ q → p ++ x :: a = q ++ x :: b → p = q ∧ a = b
  | [], [], a, b, _, _, h => ⟨rfl, (List.cons.inj h).2⟩
  | [], c :: q, a, b, _, hq, h => absurd ((List.cons.inj h).1 ▸ List.mem_cons_self) hq
  | c :: p, [], a, b, hp, _, h => absurd ((List.cons.inj h).1.symm ▸ List.mem_cons_self) hp
  | c :: p, d :: q, a, b, hp, hq, h => by
    obtain ⟨h1, h2⟩ := List.cons.inj h
    obtain ⟨h3, h4⟩ := split_at (fun z => hp (List.mem_cons_of_mem _ z)) (fun z => hq (List.mem_cons_of_mem _ z)) h2
    exact ⟨by rw [h1, h3], h4⟩
theorem join_inj : ∀ {xs ys : List (List Nat)}, xs ≠ [] → ys ≠ [] → (∀ w ∈ xs, 32 ∉ w) → (∀ w ∈ ys, 32 ∉ w) → TL.joinL [32] xs = TL.joinL [32] ys → xs = ys
  | [], _, h, _, _, _, _ => absurd rfl h
  | _, [], _, h, _, _, _ => absurd rfl h
  | [p], [q], _, _, _, _, h => by rw [show p = q from h]
  | [p], q :: q2 :: r, _, _, hp, _, h => absurd (show 32 ∈ p by
      have h : p = q ++ ([32] ++ TL.joinL [32] (q2 :: r)) := h
      rw [h]; simp) (hp p List.mem_cons_self)
  | p :: p2 :: r, [q], _, _, _, hq, h => absurd (show 32 ∈ q by
      have h : p ++ ([32] ++ TL.joinL [32] (p2 :: r)) = q := h
      rw [← h]; simp) (hq q List.mem_cons_self)
  | p :: p2 :: r, q :: q2 :: t, _, _, hp, hq, h => by
    have h : p ++ 32 :: TL.joinL [32] (p2 :: r) = q ++ 32 :: TL.joinL [32] (q2 :: t) := h
    obtain ⟨h1, h2⟩ := split_at (hp p List.mem_cons_self) (hq q List.mem_cons_self) h
    rw [h1, join_inj (xs := p2 :: r) (ys := q2 :: t) (by simp) (by simp) (fun w hw => hp w (List.mem_cons_of_mem _ hw)) (fun w hw => hq w (List.mem_cons_of_mem _ hw)) h2]
theorem part_at {P : List Nat → Prop} {x y : List Nat} : ∀ {p q a b : List (List Nat)}, (∀ w ∈ p, P w) → (∀ w ∈ q, P w) → ¬ P x → ¬ P y → p ++ x :: a = q ++ y :: b → p = q ∧ x :: a = y :: b
  | [], [], _, _, _, _, _, _, h => ⟨rfl, h⟩
  | [], c :: q, a, b, _, hq, hx, _, h => absurd (hq c List.mem_cons_self) ((List.cons.inj h).1 ▸ hx)
  | c :: p, [], a, b, hp, _, _, hy, h => absurd (hp c List.mem_cons_self) ((List.cons.inj h).1 ▸ hy)
  | c :: p, d :: q, a, b, hp, hq, hx, hy, h => by
    obtain ⟨h1, h2⟩ := List.cons.inj h
    obtain ⟨h3, h4⟩ := part_at (fun w hw => hp w (List.mem_cons_of_mem _ hw)) (fun w hw => hq w (List.mem_cons_of_mem _ hw)) hx hy h2
    exact ⟨by rw [h1, h3], h4⟩
theorem hd_in (l : Lie) : l.hd ∈ WD := match l with
  | .copied => by decide +kernel
  | .anyhow => by decide +kernel
  | .zero => by decide +kernel
  | .dealt _ _ => show ([100, 101, 97, 108, 116] : List Nat) ∈ WD by decide +kernel
theorem hd_no (l : Lie) : ¬ Nm l.hd := fun h => h.no (hd_in l)
theorem ky_no : ¬ Nm kyW := fun h => h.no (by decide +kernel)
theorem hd_ky (l : Lie) : l.hd ≠ kyW := match l with
  | .copied => by decide
  | .anyhow => by decide
  | .zero => by decide
  | .dealt _ _ => show ([100, 101, 97, 108, 116] : List Nat) ≠ kyW by decide
theorem hd_sp (l : Lie) : 32 ∉ l.hd := match l with
  | .copied => by decide
  | .anyhow => by decide
  | .zero => by decide
  | .dealt _ _ => show 32 ∉ ([100, 101, 97, 108, 116] : List Nat) by decide
theorem Nm.sp {w : List Nat} (h : Nm w) : 32 ∉ w := fun z => (sg_lt (h.sg 32 z)).2 rfl
theorem OkL.nm {cs : List (List Nat)} {l : Lie} (h : OkL cs l) (hc : ∀ c ∈ cs, Nm c) : ∀ w ∈ l.tl, Nm w := fun w hw => by
  cases l with
  | dealt r ds =>
    obtain ⟨h1, h2, _⟩ := h.d r ds rfl
    rcases List.mem_cons.mp hw with rfl | hw
    · exact h1
    · exact hc w (h2.mem w hw)
  | _ => cases hw
theorem words_sp {b : Br} (h : Ok b) : ∀ w ∈ words b, 32 ∉ w := fun w hw => by
  have hl := h.l.nm h.c.nm
  unfold words rest at hw
  simp only [List.mem_cons, List.mem_append] at hw
  rcases hw with rfl | rfl | hw | hw | rfl | hw
  · decide
  · exact h.n.sp
  · exact (h.c.nm w hw).sp
  · split at hw
    · cases hw
    · rcases List.mem_cons.mp hw with rfl | hw
      · decide
      · exact (h.c.nm w (h.k.mem w hw)).sp
  · exact hd_sp _
  · exact (hl w hw).sp
theorem lie_inj : ∀ {l m : Lie}, l.hd :: l.tl = m.hd :: m.tl → l = m
  | .copied, .copied, _ => rfl
  | .anyhow, .anyhow, _ => rfl
  | .zero, .zero, _ => rfl
  | .dealt r ds, .dealt r2 ds2, h => by
    obtain ⟨h3, h4⟩ := List.cons.inj (show r :: ds = r2 :: ds2 from (List.cons.inj h).2)
    rw [h3, h4]
  | .copied, .anyhow, h => absurd (List.cons.inj h).1 (by decide)
  | .copied, .zero, h => absurd (List.cons.inj h).1 (by decide)
  | .copied, .dealt _ _, h => absurd (show ([99, 111, 112, 105, 101, 100] : List Nat) = [100, 101, 97, 108, 116] from (List.cons.inj h).1) (by decide)
  | .anyhow, .copied, h => absurd (List.cons.inj h).1 (by decide)
  | .anyhow, .zero, h => absurd (List.cons.inj h).1 (by decide)
  | .anyhow, .dealt _ _, h => absurd (show ([97, 110, 121, 104, 111, 119] : List Nat) = [100, 101, 97, 108, 116] from (List.cons.inj h).1) (by decide)
  | .zero, .copied, h => absurd (List.cons.inj h).1 (by decide)
  | .zero, .anyhow, h => absurd (List.cons.inj h).1 (by decide)
  | .zero, .dealt _ _, h => absurd (show ([122, 101, 114, 111] : List Nat) = [100, 101, 97, 108, 116] from (List.cons.inj h).1) (by decide)
  | .dealt _ _, .copied, h => absurd (show ([100, 101, 97, 108, 116] : List Nat) = [99, 111, 112, 105, 101, 100] from (List.cons.inj h).1) (by decide)
  | .dealt _ _, .anyhow, h => absurd (show ([100, 101, 97, 108, 116] : List Nat) = [97, 110, 121, 104, 111, 119] from (List.cons.inj h).1) (by decide)
  | .dealt _ _, .zero, h => absurd (show ([100, 101, 97, 108, 116] : List Nat) = [122, 101, 114, 111] from (List.cons.inj h).1) (by decide)
theorem rest_cons (ky : List (List Nat)) (l : Lie) : ∃ x t, rest ky l = x :: t ∧ ¬ Nm x := by
  unfold rest
  split
  · exact ⟨_, _, rfl, hd_no l⟩
  · exact ⟨_, _, rfl, ky_no⟩
theorem txt_inj {a b : Br} (ha : Ok a) (hb : Ok b) (h : txtB a = txtB b) : a = b := by
  have e := join_inj (by simp [words]) (by simp [words]) (words_sp ha) (words_sp hb) h
  unfold words at e
  obtain ⟨_, e⟩ := List.cons.inj e
  obtain ⟨e1, e⟩ := List.cons.inj e
  obtain ⟨x, t, ex, nx⟩ := rest_cons a.ky a.li
  obtain ⟨y, u, ey, ny⟩ := rest_cons b.ky b.li
  rw [ex, ey] at e
  obtain ⟨e2, e3⟩ := part_at (P := Nm) ha.c.nm hb.c.nm nx ny e
  rw [← ex, ← ey] at e3
  have e4 : a.ky = b.ky ∧ a.li = b.li := by
    unfold rest at e3
    by_cases ca : a.ky = [] <;> by_cases cb : b.ky = []
    · rw [if_pos ca, if_pos cb] at e3
      exact ⟨by rw [ca, cb], lie_inj e3⟩
    · rw [if_pos ca, if_neg cb] at e3
      exact absurd (List.cons.inj e3).1 (hd_ky _)
    · rw [if_neg ca, if_pos cb] at e3
      exact absurd (List.cons.inj e3).1.symm (hd_ky _)
    · rw [if_neg ca, if_neg cb] at e3
      obtain ⟨_, e5⟩ := List.cons.inj e3
      obtain ⟨e6, e7⟩ := part_at (P := Nm) (fun w hw => ha.c.nm w (ha.k.mem w hw)) (fun w hw => hb.c.nm w (hb.k.mem w hw)) (hd_no _) (hd_no _) e5
      exact ⟨e6, lie_inj e7⟩
  cases a
  cases b
  simp only at e1 e2 e4
  rw [e1, e2, e4.1, e4.2]
/-! ### as data -/
def strsD (xs : List (List Nat)) : List PyData := xs.map fun w => PyData.str (S w)
def lieD : Lie → PyData
  | .dealt r ds => .tuple [.str (S [100, 101, 97, 108, 116]), .str (S r), .tuple (strsD ds)]
  | l => .tuple [.str (S l.hd)]
def brD (b : Br) : PyData := .list [.str (S b.n), .list (strsD b.cs), .list (strsD b.ky), lieD b.li]
theorem strs_eqv : ∀ xs ys : List (List Nat), PyData.eqvAll (strsD xs) (strsD ys) = decide (xs = ys)
  | [], [] => by simp [strsD, PyData.eqvAll]
  | [], _ :: _ => by simp [strsD, PyData.eqvAll]
  | _ :: _, [] => by simp [strsD, PyData.eqvAll]
  | x :: xs, y :: ys => by
    have ih := strs_eqv xs ys
    unfold strsD at ih ⊢
    simp only [List.map_cons, PyData.eqvAll, PyData.eqv, ih]
    by_cases c : x = y
    · subst c; simp
    · have : (S x == S y) = false := beq_eq_false_iff_ne.mpr fun z => c (S_inj z)
      rw [this]; simp [c]
theorem str_eqv (x y : List Nat) : (S x == S y) = decide (x = y) := by
  by_cases c : x = y
  · subst c; simp
  · rw [beq_eq_false_iff_ne.mpr fun z => c (S_inj z), decide_eq_false c]
theorem lie_eqv (l m : Lie) : (lieD l).eqv (lieD m) = decide (l = m) := by
  cases l <;> cases m <;> simp only [lieD, Lie.hd, PyData.eqv, PyData.eqvAll, strs_eqv, str_eqv, List.map_nil] <;> simp
theorem br_eqv (a b : Br) : (brD a).eqv (brD b) = decide (a = b) := by
  cases a; cases b
  simp only [brD, PyData.eqv, PyData.eqvAll, strs_eqv, str_eqv, lie_eqv, Br.mk.injEq]
  simp [Bool.and_assoc, Bool.decide_and]
end Bs
namespace Bs
open PySem PySem.Spec PyProof.Rows L2 SX
variable {P : Program} {w : World} {K : PySem.W.Frag} {mg : Str → Option Value} {base : Heap}
theorem sqL_same {G H : Hp} {a : Addr} {xs : List V} (h : SqL K G a xs) (s : Same G H) : SqL K H a xs := by
  rcases h with (h | ⟨o, h⟩) | h
  · exact .inl (.inl (s _ _ h))
  · exact .inl (.inr ⟨o, s _ _ h⟩)
  · exact .inr h
theorem sqT_same {G H : Hp} {a : Addr} {xs : List V} (h : SqT K G a xs) (s : Same G H) : SqT K H a xs := by
  rcases h with (h | ⟨o, h⟩) | h
  · exact .inl (.inl (s _ _ h))
  · exact .inl (.inr ⟨o, s _ _ h⟩)
  · exact .inr h
def Sq (K : PySem.W.Frag) (H : Hp) (a : Addr) (xs : List V) : Prop := SqL K H a xs ∨ SqT K H a xs
theorem Sq.same {G H : Hp} {a : Addr} {xs : List V} (h : Sq K G a xs) (s : Same G H) : Sq K H a xs := h.imp (fun h => sqL_same h s) fun h => sqT_same h s
abbrev sV (xs : List (List Nat)) : List V := (xs.map S).map V.str
theorem sV_len (xs : List (List Nat)) : (sV xs).length = xs.length := by rw [List.length_map, List.length_map]
theorem sV_flat (xs : List (List Nat)) : (sV xs).all flatV = true := by
  rw [List.all_eq_true]
  intro v hv
  obtain ⟨x, _, rfl⟩ := List.mem_map.mp hv
  rfl
theorem S_nodup {xs : List (List Nat)} (h : xs.Nodup) : (xs.map S).Nodup := by
  induction xs with
  | nil => exact List.nodup_nil
  | cons x r ih =>
    obtain ⟨h1, h2⟩ := List.nodup_cons.mp h
    refine List.nodup_cons.mpr ⟨fun z => ?_, ih h2⟩
    obtain ⟨y, hy, e⟩ := List.mem_map.mp z
    exact h1 (S_inj e ▸ hy)
theorem rep_app (b : Bool) (i : Nat) : (List.replicate i b).map V.bl ++ [V.bl b] = (List.replicate (i + 1) b).map V.bl := by
  rw [List.replicate_succ', List.map_append]
  rfl
theorem all_rep (i : Nat) : (List.replicate i true).all id = true := by
  rw [List.all_eq_true]
  intro x hx
  rw [(List.mem_replicate.mp hx).2]
  rfl
theorem inV_str (x : Str) (ys : List Str) : inV (.str x) (ys.map V.str) = decide (x ∈ ys) := by
  unfold inV
  induction ys with
  | nil => rfl
  | cons y r ih =>
    rw [List.map_cons, List.any_cons, ih]
    have e : eqV (.str y) (.str x) = decide (x = y) := by
      unfold eqV
      by_cases h : x = y
      · subst h; simp
      · have h' : ¬ y = x := fun q => h q.symm
        simp [h, h']
    rw [e]
    simp
theorem inV_sV (x : List Nat) (xs : List (List Nat)) : inV (.str (S x)) (sV xs) = decide (x ∈ xs) := by
  rw [inV_str, decide_eq_decide, List.mem_map]
  exact ⟨fun ⟨y, hy, e⟩ => S_inj e ▸ hy, fun h => ⟨x, h, rfl⟩⟩
def LieAt (K : PySem.W.Frag) (G : Hp) (a : Addr) : Lie → Prop
  | .dealt r ds => ∃ d, SqT K G a [.str (S [100, 101, 97, 108, 116]), .str (S r), .ref d] ∧ SqT K G d (sV ds)
  | l => SqT K G a [.str (S l.hd)]
theorem LieAt.same {G H : Hp} {a : Addr} {l : Lie} (h : LieAt K G a l) (s : Same G H) : LieAt K H a l := by
  cases l with
  | dealt r ds =>
    obtain ⟨d, h1, h2⟩ := h
    exact ⟨d, sqT_same h1 s, sqT_same h2 s⟩
  | _ => exact sqT_same h s
theorem dp_sV {H : Hp} : ∀ xs : List (List Nat), DpAll K H (sV xs) (strsD xs)
  | [] => .nil
  | x :: r => .cons (.str _) (dp_sV r)
theorem LieAt.dp {H : Hp} {a : Addr} {l : Lie} (h : LieAt K H a l) : Dp K H (.ref a) (lieD l) := by
  cases l with
  | dealt r ds =>
    obtain ⟨d, h1, h2⟩ := h
    exact .tup h1 (.cons (.str _) (.cons (.str _) (.cons (.tup h2 (dp_sV ds)) .nil)))
  | _ => exact .tup h (.cons (.str _) .nil)
theorem LieAt.hd {G : Hp} {a : Addr} {l : Lie} (h : LieAt K G a l) : ∃ r, SqT K G a (.str (S l.hd) :: r) := by
  cases l with
  | dealt r ds =>
    obtain ⟨d, h1, _⟩ := h
    exact ⟨_, h1⟩
  | _ => exact ⟨_, h⟩
def spNameT : Sp := fun vs H Q _ => ∃ (G : Hp) (w : List Nat), vs = [.str (S w)] ∧ Nm w ∧ Same G H ∧ ∀ H' : Hp, Step none G H G H' → Q (.bl true) H'
def spTwice (K : PySem.W.Frag) : Sp := fun vs H Q _ => ∃ (a : Addr) (xs : List (List Nat)), vs = [.ref a] ∧ Sq K H a (sV xs) ∧ xs.Nodup ∧ xs.length ≤ 100 ∧ Q (.bl false) H
def spUnlike (K : PySem.W.Frag) : Sp := fun vs H Q _ => ∃ (G : Hp) (a c : Addr) (ks cs : List (List Nat)), vs = [.ref a, .ref c] ∧ Same G H ∧ Sq K G a (sV ks) ∧ SqL K G c (sV cs) ∧ Sub ks cs ∧ ks.length ≤ 100 ∧ ∀ H' : Hp, Step none G H G H' → Q (.bl true) H'
def spDealt (K : PySem.W.Frag) : Sp := fun vs H Q _ => ∃ (G : Hp) (a c : Addr) (r : List Nat) (ds cs : List (List Nat)), vs = [.ref a, .ref c] ∧ Same G H ∧ LieAt K G a (.dealt r ds) ∧ SqL K G c (sV cs) ∧ OkL cs (.dealt r ds) ∧ ∀ H' : Hp, Step none G H G H' → Q (.bl true) H'
/-! lc over a text -/
theorem lc_str {x : Str} {g : TG} {tt : TT} {te : TE} {vs : List Nat} {σ : L2.St} {H1 : Hp} {D : Addr} {Qd : Hp → Prop} (Pv : Nat → Hp → Prop) (h0 : Pv 0 (upd H1 D (.lst [])))
    (hs : ∀ i c H, x.cps[i]? = some c → Pv i H → g (.str ⟨#[c]⟩) (wipe σ vs) H fun σ2 H2 => wipe σ2 vs = wipe σ vs ∧ tt σ2 H2 fun b H3 =>
      if b = true then te σ2 H3 fun y H4 => ∃ acc, H4 D = some (.lst acc) ∧ acc.length < sizeLine ∧ Pv (i + 1) (upd H4 D (.lst (acc ++ [y]))) else Pv (i + 1) H3) (hd : ∀ H, Pv x.cps.size H → Qd H) :
    ∃ W : Nat → Nat → Hp → Prop, (∃ m, W 0 m (upd H1 D (.lst []))) ∧ ∀ i m H, W i m H →
      ((Its x).stop i H ∧ Qd H) ∨ ((Its x).go i H ∧ ∃ Nx : Hp → Prop, (∀ H', Nx H' → ∃ m', m' < m ∧ W (i + 1) m' H') ∧ ∀ y H', (Its x).yld i H y H' → g y (wipe σ vs) H' fun σ2 H2 => wipe σ2 vs = wipe σ vs ∧ tt σ2 H2 fun b H3 =>
        if b = true then te σ2 H3 fun y H4 => ∃ acc, H4 D = some (.lst acc) ∧ acc.length < sizeLine ∧ Nx (upd H4 D (.lst (acc ++ [y]))) else Nx H3) := by
  refine ⟨fun i m H => Pv i H ∧ i + m = x.cps.size, ⟨x.cps.size, h0, Nat.zero_add _⟩, fun i m H ⟨hp, em⟩ => ?_⟩
  cases m with
  | zero =>
    have e : i = x.cps.size := em
    subst e
    exact .inl ⟨Nat.le_refl _, hd H hp⟩
  | succ m =>
    refine .inr ⟨by show i < x.cps.size; omega, Pv (i + 1), fun H' h' => ⟨m, Nat.lt_succ_self m, h', by omega⟩, ?_⟩
    rintro y H' ⟨rfl, c, hc, rfl⟩
    exact hs i c H' hc hp
def CH : Str := "abcdefghijklmnopqrstuvwxyz0123456789_"
theorem CH_c : CH.cps.toList = List.range' 97 26 ++ (List.range' 48 10 ++ [95]) := by decide +kernel
theorem LT_c : ("abcdefghijklmnopqrstuvwxyz" : Str).cps.toList = List.range' 97 26 := by decide +kernel
theorem sg_in {c : Nat} (h : sgB c = true) : c ∈ CH.cps.toList := by
  rw [CH_c, List.mem_append, List.mem_append, List.mem_range'_1, List.mem_range'_1, List.mem_singleton]
  unfold sgB at h
  simp only [Bool.or_eq_true, decide_eq_true_eq] at h
  omega
theorem lt_in {c : Nat} (h : 97 ≤ c ∧ c ≤ 122) : c ∈ ("abcdefghijklmnopqrstuvwxyz" : Str).cps.toList := by
  rw [LT_c, List.mem_range'_1]
  omega
end Bs
namespace Pf
open PySem PySem.Spec PyProof.Rows L2 Bs SX
variable {P : Program} {w : World} {K : PySem.W.Frag} {mg : Str → Option Value} {base : Heap}
abbrev N_is_name : List Str := ["word", "sign"]
theorem sc_is_name : FnScope N_is_name ["word"] (defScope s_is_name) := ⟨rfl, rfl, rfl, by decide +kernel, rfl, by decide +kernel, by decide +kernel⟩
theorem c_is_name (T : Tx K mg) : C8.Cal P w K mg base 1 "is_name" spNameT [] := by
  obtain ⟨fd, F⟩ := f_is_name T
  have pe_g_WORDS : ∀ {X : Cx} {pos : Pos}, X.mg = mg → Gl X "WORDS" → PE X (.Name "WORDS" pos) (tC (.ref (He.ga K "WORDS"))) := fun h1 h2 => C8.pe_gc h2 ⟨_, by rw [h1]; exact g_WORDS T, rfl⟩
  have pe_g_MOST_CHARACTERS : ∀ {X : Cx} {pos : Pos}, X.mg = mg → Gl X "MOST_CHARACTERS" → PE X (.Name "MOST_CHARACTERS" pos) (tC (.int 8)) := fun h1 h2 => by
    obtain ⟨t, e⟩ := ci_MOST_CHARACTERS T
    exact pe_glob h2 (by rw [h1]; exact e) ⟨t, rfl⟩
  have pe_g_LETTERS : ∀ {X : Cx} {pos : Pos}, X.mg = mg → Gl X "LETTERS" → PE X (.Name "LETTERS" pos) (tC (.str "abcdefghijklmnopqrstuvwxyz")) := fun h1 h2 => by
    obtain ⟨t, e⟩ := cs_LETTERS T
    exact pe_glob h2 (by rw [h1]; exact e) ⟨t, rfl⟩
  have pe_g_CHARACTERS : ∀ {X : Cx} {pos : Pos}, X.mg = mg → Gl X "CHARACTERS" → PE X (.Name "CHARACTERS" pos) (tC (.str CH)) := fun h1 h2 => by
    obtain ⟨t, e⟩ := cs_CHARACTERS T
    exact pe_glob h2 (by rw [h1]; exact e) ⟨t, rfl⟩
  refine mkCal F (g_is_name T) (F.bindsN fun _ _ _ _ _ _ us hl => match us, hl with | [_], _ => rfl) .nil sc_is_name (fun vs H Q E h => ?_) (fun cdv A outer s H vs Q E hr h => ?_)
  · obtain ⟨G, w, rfl, _⟩ := h
    rfl
  obtain ⟨G, w, rfl, hn, hG, q⟩ := h
  have sl : sizeLine = 16777216 := rfl
  have hl8 := hn.len
  have hl1 := hn.pos
  have hlen : (S w).length = w.length := S_len w
  refine ⟨_, (pss_cons (ps_if (PW.pt (pw_or (pt_not (pt_val (pe_callB (call_isiK' (K := K) rfl) (by rfl) (z_isinstance T) boot_isinstance (pa_cons (pv 0) (pa_cons (pe_bltn (v := .ty "str") (by rfl) (z_str T) boot_str rfl) pa_nil))))) (pw_or1 (pt_cmpR (op_in_seqK (K := K) rfl) (pv 0) (pe_g_WORDS rfl rfl) (by rfl))))) (pss_one (ps_ret pe_bl)) pss_nil)
    (pss_cons (ps_if (PW.pt (pw_or (pt_cmpR op_eq (pe_callB call_len_str (by rfl) (z_len T) boot_len (pa_cons (pv 0) pa_nil)) pe_int (nomark _)) (pw_or1 (pt_cmpR op_gt (pe_callB call_len_str (by rfl) (z_len T) boot_len (pa_cons (pv 0) pa_nil)) (pe_g_MOST_CHARACTERS rfl rfl) (nomark _))))) (pss_one (ps_ret pe_bl)) pss_nil)
    (pss_one (ps_ret (pe_and (pe_cmpR op_in_sign (pe_ix ix_str (pv 0) pe_int (fun _ _ => rfl)) (pe_g_LETTERS rfl rfl) (by rfl)) (pe_one (pe_callB (cr_all rfl) (by rfl) (z_all T) boot_all (pa_cons (pe_lc (own := [("sign", 1)]) rfl sc_is_name.nd (pi_str (pv 0)) (blkOk_by (N := N_is_name) (sc := defScope s_is_name) (by decide +kernel)) (fun _ _ _ _ _ => (pg_name (i := 1) sc_is_name.nd rfl (Or.inl rfl))) (fun _ _ _ _ _ => pts_nil) (fun _ _ _ _ _ => (pe_cmpR op_in_sign (pv 1) (pe_g_CHARACTERS rfl rfl) (by rfl)))) pa_nil)))))))), ?_⟩
  have nw : S w ∉ W29 := hn.noW
  have eW : wordsD.map (He.Dv.v K) = W29.map V.str := by rfl
  have hW : SqT K H (He.ga K "WORDS") (W29.map V.str) := by
    rw [← eW]
    exact He.tupB_ok (ex_3 T) H
  refine ⟨_, rfl, _, _, .type "str", .type "str", true, rfl, .ty "str", .base (.str _), kit_ty (by decide +kernel), _, rfl, ?_⟩
  refine iteF ?_
  refine ⟨_, rfl, _, W29.map V.str, rfl, .inr hW, rfl, by decide +kernel, _, rfl, ?_⟩
  refine ite2 (fun c => absurd c (by
    show ¬ inV (.str (S w)) (W29.map V.str) = true
    rw [inV_str, decide_eq_true_eq]
    exact nw)) (fun _ => ?_)
  refine ⟨_, rfl, S w, rfl, by rw [hlen]; omega, rfl, _, rfl, ?_⟩
  refine ite2 (fun c => absurd (V.int.inj (of_decide_eq_true c)) (by rw [hlen]; omega)) (fun _ => ?_)
  refine ⟨_, rfl, S w, rfl, by rw [hlen]; omega, _, _, rfl, rfl, _, rfl, ?_⟩
  refine ite2 (fun c => absurd (of_decide_eq_true c) (by rw [hlen]; omega)) (fun _ => ?_)
  obtain ⟨c0, r0, ew, hlt⟩ := hn.hd
  have h0 : w[0]? = some c0 := by rw [ew]; rfl
  refine ⟨_, rfl, S w, 0, c0, rfl, rfl, by rw [hlen]; omega, atI_nat (j := 0) h0, c0, _, rfl, rfl, ?_⟩
  refine ⟨_, rfl, ?_⟩
  have e0 : decide (c0 ∈ ("abcdefghijklmnopqrstuvwxyz" : Str).cps.toList) = true := decide_eq_true (lt_in hlt)
  refine ite2 (fun _ => ?_) (fun c => absurd e0 c)
  refine ⟨_, rfl, S w, rfl, fun D hD => ?_⟩
  have gD := hG.free hD
  have e8 : (S w).cps.size = w.length := hlen
  refine lc_str (x := S w) (fun i H' => Step none G H G H' ∧ H' D = some (.lst ((List.replicate i true).map V.bl))) ⟨(Step.refl hG).loc hD gD, upd_same⟩ ?_ ?_
  · rintro i c H' hc ⟨st, hL⟩
    have hc2 : w[i]? = some c := by rw [← hc]; simp [S]
    have hm := List.mem_of_getElem? hc2
    have hil := (List.getElem?_eq_some_iff.mp hc2).1
    refine ⟨rfl, ?_⟩
    unfold tYes
    refine iteT ⟨_, rfl, c, _, rfl, rfl, _, hL, ?_, st.loc hD gD, ?_⟩
    · rw [List.length_map, List.length_replicate]
      omega
    · rw [upd_same]
      have e1 : decide (c ∈ CH.cps.toList) = true := decide_eq_true (sg_in (hn.sg c hm))
      rw [e1, rep_app]
  rintro H' ⟨st, hL⟩
  refine ⟨D, _, rfl, SqL.of hL, ?_⟩
  rw [all_rep]
  exact q H' st
abbrev N_has_twice : List Str := ["things"]
theorem sc_has_twice : FnScope N_has_twice ["things"] (defScope s_has_twice) := ⟨rfl, rfl, rfl, by decide +kernel, rfl, by decide +kernel, by decide +kernel⟩
theorem c_has_twice (T : Tx K mg) : C8.Cal P w K mg base 1 "has_twice" (spTwice K) [] := by
  obtain ⟨fd, F⟩ := f_has_twice T
  refine mkCal F (g_has_twice T) (F.bindsN fun _ _ _ _ _ _ us hl => match us, hl with | [_], _ => rfl) .nil sc_has_twice (fun vs H Q E h => ?_) (fun cdv A outer s H vs Q E hr h => ?_)
  · obtain ⟨a, xs, rfl, _⟩ := h
    rfl
  obtain ⟨a, xs, rfl, hS, nd, h100, q⟩ := h
  have sb : xs.length + 1 < scanBound := by unfold scanBound; omega
  refine ⟨_, (pss_one (ps_ret (pe_cmpR op_lt (pe_lenSetN (K := K) rfl rfl (by rfl) (z_len T) (by rfl) (z_set T) (pv 0)) (pe_callB (call_len_seqK (K := K) rfl) (by rfl) (z_len T) boot_len (pa_cons (pv 0) pa_nil)) (nomark _)))), ?_⟩
  refine ⟨_, rfl, a, xs.map S, rfl, hS, S_nodup nd, by rw [List.length_map]; exact sb, _, rfl, a, _, rfl, hS, _, _, rfl, rfl, ?_⟩
  have e : decide (((xs.map S).length : Int) < ((sV xs).length : Nat)) = false := decide_eq_false (by rw [sV_len, List.length_map]; omega)
  show Q (V.bl (decide (((xs.map S).length : Int) < ((sV xs).length : Nat)))) H
  rw [e]
  exact q
end Pf
namespace Bs
open PySem PySem.Spec PyProof.Rows L2 SX
variable {K : PySem.W.Frag}
theorem sV_at {ks : List (List Nat)} {i : Nat} {x : V} (h : (sV ks)[i]? = some x) : ∃ k, k ∈ ks ∧ x = .str (S k) ∧ i < ks.length := by
  rw [List.getElem?_map, List.getElem?_map] at h
  cases e : ks[i]? with
  | none => rw [e] at h; cases h
  | some k =>
    rw [e] at h
    exact ⟨k, List.mem_of_getElem? e, (Option.some.inj h).symm, (List.getElem?_eq_some_iff.mp e).1⟩
theorem sqT_ty {H : Hp} {a : Addr} {xs : List V} (h : SqT K H a xs) : TyX K H (.ref a) (.type "tuple") := by
  rcases h with (h | ⟨o, h⟩) | ⟨o, its, n, h1, h2, _⟩
  · exact .base (.tup h)
  · exact .fTuple h
  · exact .kTuple h1 h2
theorem lt65 {A : Around} {k : Nat} (hr : Room k A) : A.units + 65 < cLine := by have := hr.un; omega
theorem dealt_ : ("dealt" : Str) = S [100, 101, 97, 108, 116] := by decide +kernel
theorem copied_ : ("copied" : Str) = S [99, 111, 112, 105, 101, 100] := by decide +kernel
theorem anyhow_ : ("anyhow" : Str) = S [97, 110, 121, 104, 111, 119] := by decide +kernel
theorem zero_w : ("zero" : Str) = S [122, 101, 114, 111] := by decide +kernel
end Bs
namespace Pf
open PySem PySem.Spec PyProof.Rows L2 Bs SX
variable {P : Program} {w : World} {K : PySem.W.Frag} {mg : Str → Option Value} {base : Heap}
abbrev N_are_unlike : List Str := ["names", "columns", "name"]
theorem sc_are_unlike : FnScope N_are_unlike ["names", "columns"] (defScope s_are_unlike) := ⟨rfl, rfl, rfl, by decide +kernel, rfl, by decide +kernel, by decide +kernel⟩
theorem c_are_unlike (T : Tx K mg) : C8.Cal P w K mg base 2 "_are_unlike" (spUnlike K) [] := by
  obtain ⟨fd, F⟩ := f_are_unlike T
  have c_has_twice := c_has_twice (P := P) (w := w) (base := base) T
  refine mkCal F (g_are_unlike T) (F.bindsN fun _ _ _ _ _ _ us hl => match us, hl with | [_, _], _ => rfl) .nil sc_are_unlike (fun vs H Q E h => ?_) (fun cdv A outer s H vs Q E hr h => ?_)
  · obtain ⟨G, a, c, ks, cs, rfl, _⟩ := h
    rfl
  obtain ⟨G, a, c, ks, cs, rfl, hG, hk, hc, hs, h100, q⟩ := h
  have sl : sizeLine = 16777216 := rfl
  rcases hk with hk | hk
  · have hkH := sqL_same hk hG
    refine ⟨_, (pss_one (ps_ret (pe_and (pe_callB (cr_all rfl) (by rfl) (z_all T) boot_all (pa_cons (pe_lc (own := [("name", 2)]) rfl sc_are_unlike.nd (pi_listK (K := K) rfl (pv 0)) (blkOk_by (N := N_are_unlike) (sc := defScope s_are_unlike) (by decide +kernel)) (fun _ _ _ _ _ => (pg_name (i := 2) sc_are_unlike.nd rfl (Or.inl rfl))) (fun _ _ _ _ _ => pts_nil) (fun _ _ _ _ _ => (pe_cmpR (op_in_seqK (K := K) rfl) (pv 2) (pv 1) (by rfl)))) pa_nil)) (pe_one (pe_not (C8.pe_c c_has_twice hr (by first | decide | omega) rfl (pa_cons (pv 0) pa_nil))))))), ?_⟩
    refine ⟨_, rfl, a, rfl, ⟨_, hkH⟩, fun D hD => ?_⟩
    have gD := hG.free hD
    refine lc_list (K := K) (a := a) (xs := sV ks) (fun i H' => Step none G H G H' ∧ H' D = some (.lst ((List.replicate i true).map V.bl))) ⟨(Step.refl hG).loc hD gD, upd_same⟩ ?_ ?_ ?_
    · rintro i H' _ ⟨st, _⟩
      exact sqL_same hk st.gh
    · rintro i x H' hx ⟨st, hL⟩
      obtain ⟨k, mk, rfl, hi⟩ := sV_at hx
      refine ⟨rfl, ?_⟩
      unfold tYes
      refine iteT ⟨_, rfl, _, rfl, c, sV cs, rfl, .inl (sqL_same hc st.gh), rfl, sV_flat cs, _, hL, by rw [List.length_map, List.length_replicate]; omega, st.loc hD gD, ?_⟩
      rw [upd_same]
      have e1 : inV (.str (S k)) (sV cs) = true := by rw [inV_sV]; exact decide_eq_true (hs.mem k mk)
      show some (HO.lst (((List.replicate i true).map V.bl) ++ [V.bl (inV (.str (S k)) (sV cs))])) = _
      rw [e1, rep_app]
    rintro H' ⟨st, hL⟩
    refine ⟨D, _, rfl, SqL.of hL, ?_⟩
    rw [all_rep]
    exact ⟨true, rfl, iteT ⟨_, rfl, a, ks, rfl, .inl (sqL_same hk st.gh), hs.nd, h100, _, rfl, q H' st⟩⟩
  · have hkH := sqT_same hk hG
    refine ⟨_, (pss_one (ps_ret (pe_and (pe_callB (cr_all rfl) (by rfl) (z_all T) boot_all (pa_cons (pe_lc (own := [("name", 2)]) rfl sc_are_unlike.nd (pi_tupK (K := K) rfl (pv 0)) (blkOk_by (N := N_are_unlike) (sc := defScope s_are_unlike) (by decide +kernel)) (fun _ _ _ _ _ => (pg_name (i := 2) sc_are_unlike.nd rfl (Or.inl rfl))) (fun _ _ _ _ _ => pts_nil) (fun _ _ _ _ _ => (pe_cmpR (op_in_seqK (K := K) rfl) (pv 2) (pv 1) (by rfl)))) pa_nil)) (pe_one (pe_not (C8.pe_c c_has_twice hr (by first | decide | omega) rfl (pa_cons (pv 0) pa_nil))))))), ?_⟩
    refine ⟨_, rfl, a, rfl, ⟨_, hkH⟩, fun D hD => ?_⟩
    have gD := hG.free hD
    refine lc_tup (K := K) (a := a) (xs := sV ks) (fun i H' => Step none G H G H' ∧ H' D = some (.lst ((List.replicate i true).map V.bl))) ⟨(Step.refl hG).loc hD gD, upd_same⟩ ?_ ?_ ?_
    · rintro i H' _ ⟨st, _⟩
      exact sqT_same hk st.gh
    · rintro i x H' hx ⟨st, hL⟩
      obtain ⟨k, mk, rfl, hi⟩ := sV_at hx
      refine ⟨rfl, ?_⟩
      unfold tYes
      refine iteT ⟨_, rfl, _, rfl, c, sV cs, rfl, .inl (sqL_same hc st.gh), rfl, sV_flat cs, _, hL, by rw [List.length_map, List.length_replicate]; omega, st.loc hD gD, ?_⟩
      rw [upd_same]
      have e1 : inV (.str (S k)) (sV cs) = true := by rw [inV_sV]; exact decide_eq_true (hs.mem k mk)
      show some (HO.lst (((List.replicate i true).map V.bl) ++ [V.bl (inV (.str (S k)) (sV cs))])) = _
      rw [e1, rep_app]
    rintro H' ⟨st, hL⟩
    refine ⟨D, _, rfl, SqL.of hL, ?_⟩
    rw [all_rep]
    exact ⟨true, rfl, iteT ⟨_, rfl, a, ks, rfl, .inr (sqT_same hk st.gh), hs.nd, h100, _, rfl, q H' st⟩⟩
abbrev N_is_dealt : List Str := ["lies", "columns", "_", "rule", "dealt"]
theorem sc_is_dealt : FnScope N_is_dealt ["lies", "columns"] (defScope s_is_dealt) := ⟨rfl, rfl, rfl, by decide +kernel, rfl, by decide +kernel, by decide +kernel⟩
theorem c_is_dealt (T : Tx K mg) : C8.Cal P w K mg base 3 "_is_dealt" (spDealt K) [] := by
  obtain ⟨fd, F⟩ := f_is_dealt T
  have c_is_name := c_is_name (P := P) (w := w) (base := base) T
  have c_are_unlike := c_are_unlike (P := P) (w := w) (base := base) T
  have pe_g_MOST_DEALT : ∀ {X : Cx} {pos : Pos}, X.mg = mg → Gl X "MOST_DEALT" → PE X (.Name "MOST_DEALT" pos) (tC (.int 3)) := fun h1 h2 => by
    obtain ⟨t, e⟩ := ci_MOST_DEALT T
    exact pe_glob h2 (by rw [h1]; exact e) ⟨t, rfl⟩
  refine mkCal F (g_is_dealt T) (F.bindsN fun _ _ _ _ _ _ us hl => match us, hl with | [_, _], _ => rfl) .nil sc_is_dealt (fun vs H Q E h => ?_) (fun cdv A outer s H vs Q E hr h => ?_)
  · obtain ⟨G, a, c, r, ds, cs, rfl, _⟩ := h
    rfl
  obtain ⟨G, a, c, r, ds, cs, rfl, hG, hl, hc, hok, q⟩ := h
  obtain ⟨nr, hsub, lo, hi⟩ := hok.d r ds rfl
  obtain ⟨d, h1, h2⟩ := hl
  have h1' := sqT_same h1 hG
  have h2' := sqT_same h2 hG
  refine ⟨_, (pss_cons (ps_if (PW.pt (pw_or (pt_not (pt_val (pe_callB (call_isiK' (K := K) rfl) (by rfl) (z_isinstance T) boot_isinstance (pa_cons (pv 0) (pa_cons (pe_bltn (v := .ty "tuple") (by rfl) (z_tuple T) boot_tuple rfl) pa_nil))))) (pw_or (pt_cmpR op_ne (pe_callB (call_len_seqK (K := K) rfl) (by rfl) (z_len T) boot_len (pa_cons (pv 0) pa_nil)) pe_int (nomark _)) (pw_or1 (pt_cmpR op_ne (pe_ix (ix_tupK (K := K) rfl) (pv 0) pe_int (fun _ _ => rfl)) pe_str (nomark _)))))) (pss_one (ps_ret pe_bl)) pss_nil)
    (pss_cons (ps_asg (pv 0) (pg_tup rfl (pgs_cons (pg_name (i := 2) sc_is_dealt.nd rfl (Or.inl rfl)) (pgs_cons (pg_name (i := 3) sc_is_dealt.nd rfl (Or.inl rfl)) (pgs_cons (pg_name (i := 4) sc_is_dealt.nd rfl (Or.inl rfl)) pgs_nil)))))
    (pss_cons (ps_if (PW.pt (pw_or (pt_not (pt_val (C8.pe_c c_is_name hr (by first | decide | omega) rfl (pa_cons (pv 3) pa_nil)))) (pw_or1 (pt_not (pt_val (pe_callB (call_isiK' (K := K) rfl) (by rfl) (z_isinstance T) boot_isinstance (pa_cons (pv 4) (pa_cons (pe_bltn (v := .ty "tuple") (by rfl) (z_tuple T) boot_tuple rfl) pa_nil)))))))) (pss_one (ps_ret pe_bl)) pss_nil)
    (pss_one (ps_ret (pe_and (pe_chain op_le op_le pe_int (pe_callB (call_len_seqK (K := K) rfl) (by rfl) (z_len T) boot_len (pa_cons (pv 4) pa_nil)) (pe_g_MOST_DEALT rfl rfl)) (pe_one (C8.pe_c c_are_unlike hr (by first | decide | omega) rfl (pa_cons (pv 4) (pa_cons (pv 1) pa_nil)))))))))), ?_⟩
  refine ⟨_, rfl, _, _, .type "tuple", .type "tuple", true, rfl, .ty "tuple", sqT_ty h1', kit_ty (by decide +kernel), _, rfl, ?_⟩
  refine iteF ?_
  refine ⟨_, rfl, a, _, rfl, .inr h1', rfl, _, rfl, ?_⟩
  refine ite2 (fun c => absurd c (by simp)) (fun _ => ?_)
  refine ⟨_, rfl, a, _, 0, _, rfl, rfl, h1', atI_nat (j := 0) rfl, rfl, _, rfl, ?_⟩
  refine ite2 (fun c => absurd c (by rw [dealt_]; simp)) (fun _ => ?_)
  refine ⟨_, rfl, a, _, rfl, h1', rfl, _, _, rfl, _, _, rfl, _, _, rfl, rfl, ?_⟩
  refine ⟨_, rfl, G, r, rfl, nr, hG, fun H1 s1 => ⟨_, rfl, iteF ?_⟩⟩
  have h2'' := sqT_same h2 s1.gh
  refine ⟨_, rfl, _, _, .type "tuple", .type "tuple", true, rfl, .ty "tuple", sqT_ty h2'', kit_ty (by decide +kernel), _, rfl, iteF ?_⟩
  refine ⟨_, rfl, d, _, rfl, .inr h2'', _, _, rfl, rfl, _, rfl, ?_⟩
  refine ite2 (fun _ => ?_) (fun c => absurd (decide_eq_true (by rw [sV_len]; omega)) c)
  refine ⟨_, _, rfl, rfl, _, rfl, ?_⟩
  refine ite2 (fun _ => ?_) (fun c => absurd (decide_eq_true (by rw [sV_len]; omega)) c)
  exact ⟨_, rfl, _, rfl, G, d, c, ds, cs, rfl, s1.gh, .inr h2, hc, hsub, by omega, fun H2 s2 => q H2 (s1.trans s2)⟩
end Pf
namespace Bs
open PySem PySem.Spec PyProof.Rows L2 SX
variable {P : Program} {w : World} {K : PySem.W.Frag} {mg : Str → Option Value} {base : Heap}
/-- the fields that are told to `_fault_of` and `_row_of` -/
structure Flds (fs : List (Str × V)) (n : List Nat) (c k l : Addr) : Prop where
  n : fs.lookup ("name" : Str) = some (.str (S n))
  c : fs.lookup ("columns" : Str) = some (.ref c)
  k : fs.lookup ("key" : Str) = some (.ref k)
  l : fs.lookup ("lies" : Str) = some (.ref l)
structure BrAt (K : PySem.W.Frag) (G : Hp) (c k l : Addr) (b : Br) : Prop where
  c : G c = some (.lst (sV b.cs))
  k : G k = some (.lst (sV b.ky))
  l : LieAt K G l b.li
theorem BrAt.same {G H : Hp} {c k l : Addr} {b : Br} (h : BrAt K G c k l b) (s : Same G H) : BrAt K H c k l b := ⟨s _ _ h.c, s _ _ h.k, h.l.same s⟩
def spFault (K : PySem.W.Frag) (C : Addr) : Sp := fun vs H Q _ => ∃ (G : Hp) (p dx c k l : Addr) (fs : List (Str × V)) (b : Br), vs = [.ref p] ∧ Same G H ∧ H p = some (.ins C dx fs) ∧ Flds fs b.n c k l ∧ BrAt K G c k l b ∧ Ok b ∧ ∀ H' : Hp, Step none G H G H' → Q .non H'
def spRow (K : PySem.W.Frag) (C : Addr) : Sp := fun vs H Q _ => ∃ (G : Hp) (p dx c k l : Addr) (fs : List (Str × V)) (b : Br), vs = [.ref p] ∧ Same G H ∧ H p = some (.ins C dx fs) ∧ Flds fs b.n c k l ∧ BrAt K G c k l b ∧ Ok b ∧ ∀ H' : Hp, Step none G H G H' → Q (.str (S (txtB b))) H'
theorem lie_plain (l : Lie) : ([lieD .copied, lieD .anyhow, lieD .zero].any fun z => PyData.eqv z (lieD l)) = (match l with | .dealt _ _ => false | _ => true) := by
  simp only [List.any_cons, List.any_nil, lie_eqv]
  cases l <;> simp
theorem S_ok {w : List Nat} (h : ∀ c ∈ w, c < 128) : PyData.strOk (S w) = true := by
  unfold PyData.strOk
  rw [Array.all_eq_true]
  intro i hi
  have hi : i < w.length := by simpa [S] using hi
  have := h (w[i]) (List.getElem_mem hi)
  simp only [S, List.getElem_toArray, decide_eq_true_eq]
  omega
theorem Nm.ok {w : List Nat} (h : Nm w) : PyData.strOk (S w) = true := S_ok fun c hc => (sg_lt (h.sg c hc)).1
theorem lay_strs : ∀ {xs : List (List Nat)}, (∀ x ∈ xs, Nm x) → PyData.canLayAll0 (strsD xs) = true ∧ PyData.depthAll (strsD xs) = 0
  | [], _ => ⟨by simp [strsD, PyData.canLayAll0], by simp [strsD, PyData.depthAll]⟩
  | x :: r, h => by
    obtain ⟨h1, h2⟩ := lay_strs fun z hz => h z (List.mem_cons_of_mem _ hz)
    unfold strsD at h1 h2 ⊢
    exact ⟨by simp [PyData.canLayAll0, PyData.canLay0, (h x List.mem_cons_self).ok, h1], by simp [PyData.depthAll, PyData.depth, h2]⟩
theorem hd_ok (l : Lie) : PyData.strOk (S l.hd) = true := S_ok (by
  cases l with
  | dealt r ds => show ∀ c ∈ ([100, 101, 97, 108, 116] : List Nat), c < 128; decide
  | _ => decide)
theorem lay_lie {cs : List (List Nat)} {l : Lie} (h : OkL cs l) (hc : ∀ c ∈ cs, Nm c) : (lieD l).canLay0 = true ∧ (lieD l).depth ≤ 2 := by
  have hh := hd_ok l
  cases l with
  | dealt r ds =>
    obtain ⟨h1, h2, _⟩ := h.d r ds rfl
    obtain ⟨h3, h4⟩ := lay_strs fun z hz => hc z (h2.mem z hz)
    refine ⟨?_, ?_⟩
    · have hh : PyData.strOk (S [100, 101, 97, 108, 116]) = true := hh
      simp [lieD, PyData.canLay0, PyData.canLayAll0, hh, h1.ok, h3]
    · simp [lieD, PyData.depth, PyData.depthAll, h4]
  | _ => exact ⟨by simp [lieD, PyData.canLay0, PyData.canLayAll0, hh], by simp [lieD, PyData.depth, PyData.depthAll]⟩
theorem shp_lie {cs : List (List Nat)} {l : Lie} (h : OkL cs l) (hc : ∀ c ∈ cs, Nm c) : SeqAt.shaped (lieD l) = true := by
  obtain ⟨h1, h2⟩ := lay_lie h hc
  unfold SeqAt.shaped
  rw [h1, Bool.true_and, decide_eq_true_eq]
  omega
theorem shp_plain : SeqAt.shaped (.tuple [lieD .copied, lieD .anyhow, lieD .zero]) = true := by
  have h1 := hd_ok .copied
  have h2 := hd_ok .anyhow
  have h3 := hd_ok .zero
  unfold SeqAt.shaped
  simp [lieD, PyData.canLay0, PyData.canLayAll0, PyData.depth, PyData.depthAll, h1, h2, h3]
end Bs
namespace Pf
open PySem PySem.Spec PyProof.Rows L2 Bs SX
variable {P : Program} {w : World} {K : PySem.W.Frag} {mg : Str → Option Value} {base : Heap}
abbrev CTb (K : PySem.W.Frag) : Addr := He.ga K "Table"
abbrev N_fault_of : List Str := ["table", "name"]
theorem sc_fault_of : FnScope N_fault_of ["table"] (defScope s_fault_of) := ⟨rfl, rfl, rfl, by decide +kernel, rfl, by decide +kernel, by decide +kernel⟩
theorem c_fault_of (T : Tx K mg) : C8.Cal P w K mg base 4 "_fault_of" (spFault K (CTb K)) [] := by
  obtain ⟨fd, F⟩ := f_fault_of T
  have c_is_name := c_is_name (P := P) (w := w) (base := base) T
  have c_has_twice := c_has_twice (P := P) (w := w) (base := base) T
  have c_are_unlike := c_are_unlike (P := P) (w := w) (base := base) T
  have c_is_dealt := c_is_dealt (P := P) (w := w) (base := base) T
  have pe_g_Table : ∀ {X : Cx} {pos : Pos}, X.mg = mg → Gl X "Table" → PE X (.Name "Table" pos) (tC (.ref (CTb K))) := fun h1 h2 => C8.pe_gc h2 ⟨_, by rw [h1]; exact g_Table T, rfl⟩
  have pe_g_PLAIN_LIES : ∀ {X : Cx} {pos : Pos}, X.mg = mg → Gl X "PLAIN_LIES" → PE X (.Name "PLAIN_LIES" pos) (tC (.ref (He.ga K "PLAIN_LIES"))) := fun h1 h2 => C8.pe_gc h2 ⟨_, by rw [h1]; exact g_PLAIN_LIES T, rfl⟩
  refine mkCal F (g_fault_of T) (F.bindsN fun _ _ _ _ _ _ us hl => match us, hl with | [_], _ => rfl) .nil sc_fault_of (fun vs H Q E h => ?_) (fun cdv A outer s H vs Q E hr h => ?_)
  · obtain ⟨G, p, dx, c, k, l, fs, b, rfl, _⟩ := h
    rfl
  obtain ⟨G, p, dx, c, k, l, fs, b, rfl, hG, hp, hf, hb, ok, q⟩ := h
  have C0 := cls_Table_ T
  refine ⟨_, (pss_cons (ps_if (pt_not (pt_val (C8.pe_c c_is_name hr (by first | decide | omega) rfl (pa_cons (pe_fldK (K := K) rfl (pv 0) (by rfl)) pa_nil)))) (pss_one (ps_ret pe_str)) pss_nil)
    (pss_cons (ps_if (pt_not (pt_chain op_le op_le pe_int (pe_callB (call_len_seqK (K := K) rfl) (by rfl) (z_len T) boot_len (pa_cons (pe_fldK (K := K) rfl (pv 0) (by rfl)) pa_nil)) (ClX.pe_cval (pe_g_Table rfl rfl)))) (pss_one (ps_ret pe_str)) pss_nil)
    (pss_cons (ps_if (PW.pt (pw_or (pt_not (pt_val (pe_callB (cr_all rfl) (by rfl) (z_all T) boot_all (pa_cons (pe_lc (own := [("name", 1)]) rfl sc_fault_of.nd (pi_listK (K := K) rfl (pe_fldK (K := K) rfl (pv 0) (by rfl))) (blkOk_by (N := N_fault_of) (sc := defScope s_fault_of) (by decide +kernel)) (fun _ _ _ _ _ => (pg_name (i := 1) sc_fault_of.nd rfl (Or.inl rfl))) (fun _ _ _ _ _ => pts_nil) (fun _ _ _ _ _ => (C8.pe_c c_is_name hr (by first | decide | omega) rfl (pa_cons (pv 1) pa_nil)))) pa_nil)))) (pw_or1 (pt_val (C8.pe_c c_has_twice hr (by first | decide | omega) rfl (pa_cons (pe_fldK (K := K) rfl (pv 0) (by rfl)) pa_nil)))))) (pss_one (ps_ret pe_str)) pss_nil)
    (pss_cons (ps_if (pt_not (pt_val (C8.pe_c c_are_unlike hr (by first | decide | omega) rfl (pa_cons (pe_fldK (K := K) rfl (pv 0) (by rfl)) (pa_cons (pe_fldK (K := K) rfl (pv 0) (by rfl)) pa_nil))))) (pss_one (ps_ret pe_str)) pss_nil)
    (pss_one (ps_ret (pe_ifExp (PW.pt (pw_or (pt_cmpR (op_inDT (lt65 hr)) (pe_fldK (K := K) rfl (pv 0) (by rfl)) (pe_g_PLAIN_LIES rfl rfl) (by rfl)) (pw_or1 (pt_val (C8.pe_c c_is_dealt hr (by first | decide | omega) rfl (pa_cons (pe_fldK (K := K) rfl (pv 0) (by rfl)) (pa_cons (pe_fldK (K := K) rfl (pv 0) (by rfl)) pa_nil))))))) pe_non pe_str))))))), ?_⟩
  refine ⟨_, rfl, p, CTb K, dx, _, _, rfl, hp, C0, noat_Table_name T, hf.n, G, b.n, rfl, ok.n, hG, fun H1 s1 => ⟨_, rfl, iteF ?_⟩⟩
  have hp1 := s1.same _ _ hp
  obtain ⟨u8, cv⟩ := Hd.clsIntB_ok (ex_12 T)
  refine ⟨_, rfl, p, CTb K, dx, _, _, rfl, hp1, C0, noat_Table_columns T, hf.c, c, _, rfl, .inl (SqL.of (s1.gh _ _ hb.c)), _, _, rfl, rfl, _, rfl, ?_⟩
  refine ite2 (fun _ => ?_) (fun z => absurd (decide_eq_true (by rw [sV_len]; have := ok.c.lo; omega)) z)
  refine ⟨_, _, _, _, rfl, ⟨ex_10 T, He.eqO_ok (ex_11 T)⟩, cv, _, _, rfl, rfl, _, rfl, ?_⟩
  refine ite2 (fun z => absurd (show decide (((sV b.cs).length : Int) ≤ 8) = true from decide_eq_true (by rw [sV_len]; have := ok.c.hi; omega)) (by rw [Bool.not_eq_true'] at z; rw [z]; simp)) (fun _ => ?_)
  refine ⟨_, rfl, p, CTb K, dx, _, _, rfl, hp1, C0, noat_Table_columns T, hf.c, c, rfl, ⟨_, SqL.of (s1.gh _ _ hb.c)⟩, fun D hD => ?_⟩
  have gD := s1.gh.free hD
  have hD0 := s1.free hD
  refine lc_list (K := K) (a := c) (xs := sV b.cs) (fun i H' => Step none G H G H' ∧ H' D = some (.lst ((List.replicate i true).map V.bl))) ⟨s1.loc hD0 gD, upd_same⟩ ?_ ?_ ?_
  · rintro i H' _ ⟨st, _⟩
    exact SqL.of (st.gh _ _ hb.c)
  · rintro i x H' hx ⟨st, hL⟩
    obtain ⟨k', mk, rfl, hi⟩ := sV_at hx
    have := ok.c.hi
    have sl : sizeLine = 16777216 := rfl
    refine ⟨rfl, ?_⟩
    unfold tYes
    refine iteT ⟨_, rfl, G, k', rfl, ok.c.nm k' mk, st.gh, fun H2 s2 => ⟨_, s2.same _ _ hL, by rw [List.length_map, List.length_replicate]; omega, (st.trans s2).loc hD0 gD, ?_⟩⟩
    rw [upd_same, rep_app]
  rintro H2 ⟨s2, hL⟩
  have hp2 := s2.same _ _ hp
  refine ⟨D, _, rfl, SqL.of hL, ?_⟩
  rw [all_rep]
  refine ⟨_, rfl, iteF ⟨_, rfl, p, CTb K, dx, _, _, rfl, hp2, C0, noat_Table_columns T, hf.c, c, b.cs, rfl, .inl (SqL.of (s2.gh _ _ hb.c)), ok.c.nd, by have := ok.c.hi; omega, _, rfl, iteF ?_⟩⟩
  refine ⟨_, rfl, p, CTb K, dx, _, _, rfl, hp2, C0, noat_Table_key T, hf.k, _, rfl, p, CTb K, dx, _, _, rfl, hp2, C0, noat_Table_columns T, hf.c, G, k, c, b.ky, b.cs, rfl, s2.gh, .inl (SqL.of hb.k), SqL.of hb.c, ok.k, by have := ok.k.le; have := ok.c.hi; omega, fun H3 s3 => ⟨_, rfl, iteF ?_⟩⟩
  have s23 := s2.trans s3
  have hp3 := s23.same _ _ hp
  have hl3 := hb.l.same s23.gh
  have dpl : Dp K H3 (.ref (He.ga K "PLAIN_LIES")) (.tuple [lieD .copied, lieD .anyhow, lieD .zero]) := by
    refine .tup (He.tupB_ok (ex_4 T) H3) (.cons (.tup (Hd.tupAtB_ok (ex_5 T) H3) (.cons ?_ .nil)) (.cons (.tup (Hd.tupAtB_ok (ex_6 T) H3) (.cons ?_ .nil)) (.cons (.tup (Hd.tupAtB_ok (ex_7 T) H3) (.cons ?_ .nil)) .nil)))
    · rw [copied_]; exact .str _
    · rw [anyhow_]; exact .str _
    · rw [zero_w]; exact .str _
  refine ⟨_, rfl, p, CTb K, dx, _, _, rfl, hp3, C0, noat_Table_lies T, hf.l, lieD b.li, _, hl3.dp, dpl, shp_lie ok.l ok.c.nm, shp_plain, _, rfl, ?_⟩
  rw [lie_plain]
  have okl := ok.l
  have hbl := hb.l
  revert okl hbl hl3
  cases b.li with
  | dealt r ds =>
    intro hl3 okl hbl
    refine iteF ⟨_, rfl, p, CTb K, dx, _, _, rfl, hp3, C0, noat_Table_lies T, hf.l, _, rfl, p, CTb K, dx, _, _, rfl, hp3, C0, noat_Table_columns T, hf.c, G, l, c, r, ds, b.cs, rfl, s23.gh, hbl, SqL.of hb.c, okl, fun H4 s4 => ⟨_, rfl, iteT (q H4 (s23.trans s4))⟩⟩
  | _ =>
    intro _ _ _
    exact iteT (q H3 s23)
end Pf
namespace Bs
open PySem PySem.Spec PyProof.Rows L2 SX
theorem table_ : ("table" : Str) = S tbW := by decide +kernel
theorem key_ : ("key" : Str) = S kyW := by decide +kernel
theorem sp_ : (" " : Str) = S [32] := by decide +kernel
def kyP (ky : List (List Nat)) : List (List Nat) := if ky = [] then [] else kyW :: ky
theorem kyP_len (ky : List (List Nat)) : (kyP ky).length ≤ ky.length + 1 := by unfold kyP; split <;> simp
theorem sV_app (xs ys : List (List Nat)) : sV xs ++ sV ys = sV (xs ++ ys) := by
  show (xs.map S).map V.str ++ (ys.map S).map V.str = ((xs ++ ys).map S).map V.str
  rw [List.map_append, List.map_append]
theorem Ok.hd8 (l : Lie) : l.hd.length ≤ 8 := match l with
  | .copied => by decide
  | .anyhow => by decide
  | .zero => by decide
  | .dealt _ _ => show ([100, 101, 97, 108, 116] : List Nat).length ≤ 8 by decide
theorem Ok.w8 {b : Br} (h : Ok b) : ∀ w ∈ words b, w.length ≤ 8 := fun w hw => by
  have hl := h.l.nm h.c.nm
  unfold words rest at hw
  simp only [List.mem_cons, List.mem_append] at hw
  rcases hw with rfl | rfl | hw | hw | rfl | hw
  · decide
  · exact h.n.len
  · exact (h.c.nm w hw).len
  · split at hw
    · cases hw
    · rcases List.mem_cons.mp hw with rfl | hw
      · decide
      · exact (h.c.nm w (h.k.mem w hw)).len
  · exact Ok.hd8 _
  · exact (hl w hw).len
theorem Ok.ky8 {b : Br} (h : Ok b) : b.ky.length ≤ 8 := Nat.le_trans h.k.le h.c.hi
theorem Ok.tl8 {b : Br} (h : Ok b) : b.li.tl.length ≤ 4 := by
  have hl := h.l
  revert hl
  cases b.li with
  | dealt r ds =>
    intro hl
    obtain ⟨_, _, _, h3⟩ := hl.d r ds rfl
    show (r :: ds).length ≤ 4
    rw [List.length_cons]; omega
  | _ => intro _; show 0 ≤ 4; decide
theorem Ok.wn {b : Br} (h : Ok b) : (words b).length ≤ 30 := by
  have h1 := h.c.hi
  have h2 := h.ky8
  have h3 := h.tl8
  have h4 := kyP_len b.ky
  unfold words rest
  show ((_ : List Nat) :: _ :: (b.cs ++ (kyP b.ky ++ _))).length ≤ 30
  simp only [List.length_cons, List.length_append]
  omega
theorem sum8 : ∀ {ws : List (List Nat)}, (∀ w ∈ ws, w.length ≤ 8) → ((ws.map S).map (fun x => x.length)).sum ≤ 8 * ws.length
  | [], _ => by simp
  | w :: r, h => by
    have h1 := h w List.mem_cons_self
    have h2 := sum8 fun z hz => h z (List.mem_cons_of_mem _ hz)
    simp only [List.map_cons, List.sum_cons, S_len, List.length_cons]
    omega
end Bs
namespace Pf
open PySem PySem.Spec PyProof.Rows L2 Bs SX
variable {P : Program} {w : World} {K : PySem.W.Frag} {mg : Str → Option Value} {base : Heap}
abbrev N_row_of : List Str := ["table", "words"]
theorem sc_row_of : FnScope N_row_of ["table"] (defScope s_row_of) := ⟨rfl, rfl, rfl, by decide +kernel, rfl, by decide +kernel, by decide +kernel⟩
theorem c_row_of (T : Tx K mg) : C8.Cal P w K mg base 1 "_row_of" (spRow K (CTb K)) [] := by
  obtain ⟨fd, F⟩ := f_row_of T
  refine mkCal F (g_row_of T) (F.bindsN fun _ _ _ _ _ _ us hl => match us, hl with | [_], _ => rfl) .nil sc_row_of (fun vs H Q E h => ?_) (fun cdv A outer s H vs Q E hr h => ?_)
  · obtain ⟨G, p, dx, c, k, l, fs, b, rfl, _⟩ := h
    rfl
  obtain ⟨G, p, dx, c, k, l, fs, b, rfl, hG, hp, hf, hb, ok, q⟩ := h
  have C0 := cls_Table_ T
  refine ⟨_, (pss_cons (ps_set (i := 1) sc_row_of.nd rfl (Or.inl rfl) (pe_op op_cat (pe_lst (pa_cons pe_str (pa_cons (pe_fldK (K := K) rfl (pv 0) (by rfl)) pa_nil))) (pe_fldK (K := K) rfl (pv 0) (by rfl))))
    (C8.pss_cut (ps_if (pt_truth (pe_fldK (K := K) rfl (pv 0) (by rfl)) (by intro _; rfl)) (pss_one (ps_set (i := 1) sc_row_of.nd rfl (Or.inl rfl) (pe_op op_cat (pe_op op_cat (pv 1) (pe_lst (pa_cons pe_str pa_nil))) (pe_fldK (K := K) rfl (pv 0) (by rfl))))) pss_nil)
    (pss_cons (ps_expr (pe_bm PySem.F.plainAttrs_list PySem.F.slot_list_append PySem.F.type_list_append mt_append (pv 1) (pa_cons (pe_ix (ix_tupK (K := K) rfl) (pe_fldK (K := K) rfl (pv 0) (by rfl)) pe_int (fun _ _ => rfl)) pa_nil)))
    (C8.pss_cut (ps_if (pt_cmpR op_eq (pe_ix (ix_tupK (K := K) rfl) (pe_fldK (K := K) rfl (pv 0) (by rfl)) pe_int (fun _ _ => rfl)) pe_str (nomark _)) (pss_cons (ps_expr (pe_bm PySem.F.plainAttrs_list PySem.F.slot_list_append PySem.F.type_list_append mt_append (pv 1) (pa_cons (pe_ix (ix_tupK (K := K) rfl) (pe_fldK (K := K) rfl (pv 0) (by rfl)) pe_int (fun _ _ => rfl)) pa_nil)))
    (pss_one (ps_expr (pe_bm PySem.F.plainAttrs_list PySem.F.slot_list_extend PySem.F.type_list_extend mt_extend (pv 1) (pa_cons (pe_callTy call_list_of (by rfl) (z_list T) boot_list (pa_cons (pe_ix (ix_tupK (K := K) rfl) (pe_fldK (K := K) rfl (pv 0) (by rfl)) pe_int (fun _ _ => rfl)) pa_nil)) pa_nil))))) pss_nil)
    (pss_one (ps_ret (pe_join pe_str (pv 1)))))))), ?_⟩
  have sl : sizeLine = 16777216 := rfl
  have c8 := ok.c.hi
  have k8 := ok.ky8
  have t4 := ok.tl8
  have kp := kyP_len b.ky
  refine ⟨_, rfl, p, CTb K, dx, _, _, rfl, hp, C0, noat_Table_name T, hf.n, by show 2 ≤ sizeLine; decide, fun D0 h0 => ?_⟩
  have g0 := hG.free h0
  have s0 := (Step.refl (p := none) hG).loc (o := .lst [.str "table", .str (S b.n)]) h0 g0
  have hd0 : upd H D0 (.lst [.str "table", .str (S b.n)]) D0 = some (.lst [.str "table", .str (S b.n)]) := upd_same
  generalize upd H D0 (.lst [.str "table", .str (S b.n)]) = H0 at *
  have hp0 := s0.same _ _ hp
  refine ⟨_, rfl, p, CTb K, dx, _, _, rfl, hp0, C0, noat_Table_columns T, hf.c, D0, c, _, _, rfl, rfl, hd0, s0.gh _ _ hb.c, by rw [sV_len]; show 2 + _ ≤ _; omega, fun W hW => ?_⟩
  have e1 : [V.str "table", V.str (S b.n)] ++ sV b.cs = sV (tbW :: b.n :: b.cs) := by rw [table_]; rfl
  rw [e1]
  have hWH := s0.free hW
  have gW := s0.gh.free hW
  have s1 := s0.loc (o := .lst (sV (tbW :: b.n :: b.cs))) hWH gW
  have hW1 : upd H0 W (.lst (sV (tbW :: b.n :: b.cs))) W = some (.lst (sV (tbW :: b.n :: b.cs))) := upd_same
  generalize upd H0 W (.lst (sV (tbW :: b.n :: b.cs))) = H1 at *
  clear s0 hd0 hp0 e1
  have hp1 := s1.same _ _ hp
  refine ⟨fun σ' H' => ∃ W, σ' = [some (.ref p), some (.ref W)] ∧ Step none G H G H' ∧ H W = none ∧ G W = none ∧ H' W = some (.lst (sV ((tbW :: b.n :: b.cs) ++ kyP b.ky))), ?_, ?_⟩
  · refine ⟨_, rfl, p, CTb K, dx, _, _, rfl, hp1, C0, noat_Table_key T, hf.k, _, .inl ⟨_, SqL.of (s1.gh _ _ hb.k), rfl⟩, ?_⟩
    refine ite2 (fun z => ?_) (fun z => ?_)
    · have hky : b.ky ≠ [] := fun e => by rw [e] at z; simp at z
      refine ⟨_, rfl, by show 1 ≤ sizeLine; decide, fun D2 h2 => ?_⟩
      have s2 := s1.loc (o := .lst [.str "key"]) (s1.free h2) (s1.gh.free h2)
      refine ⟨W, D2, _, _, rfl, rfl, by rw [upd_ne (ne_of_none hW1 h2)]; exact hW1, upd_same, by rw [sV_len]; show (b.cs.length + 1 + 1) + 1 ≤ _; omega, fun D3 h3 => ?_⟩
      have e3 : sV (tbW :: b.n :: b.cs) ++ [V.str "key"] = sV ((tbW :: b.n :: b.cs) ++ [kyW]) := by rw [key_]; exact sV_app (tbW :: b.n :: b.cs) [kyW]
      rw [e3]
      have s3 := s2.loc (o := .lst (sV ((tbW :: b.n :: b.cs) ++ [kyW]))) (s2.free h3) (s2.gh.free h3)
      have hp3 := s3.same _ _ hp
      refine ⟨_, rfl, p, CTb K, dx, _, _, rfl, hp3, C0, noat_Table_key T, hf.k, D3, k, _, _, rfl, rfl, upd_same, s3.gh _ _ hb.k, by rw [sV_len, sV_len, List.length_append]; show (b.cs.length + 1 + 1) + 1 + _ ≤ _; omega, fun D4 h4 => ?_⟩
      have e4 : sV ((tbW :: b.n :: b.cs) ++ [kyW]) ++ sV b.ky = sV ((tbW :: b.n :: b.cs) ++ kyP b.ky) := by
        rw [sV_app, List.append_assoc]
        unfold kyP
        rw [if_neg hky]
        rfl
      rw [e4]
      exact ⟨D4, rfl, s3.loc (s3.free h4) (s3.gh.free h4), s3.free h4, s3.gh.free h4, upd_same⟩
    · have hky : b.ky = [] := by
        cases e : b.ky with
        | nil => rfl
        | cons x r => rw [e] at z; exact absurd (by rfl) z
      refine ⟨W, rfl, s1, hWH, gW, ?_⟩
      have e5 : kyP b.ky = [] := by unfold kyP; rw [if_pos hky]
      rw [e5, List.append_nil]
      exact hW1
  clear hWH gW hW1 hW s1
  rintro σ' H2 ⟨W, rfl, s2, hWH, gW, hW2⟩
  have hp2 := s2.same _ _ hp
  have hn : W ≠ p := fun e => by rw [e, hp] at hWH; cases hWH
  obtain ⟨lr, hlr⟩ := hb.l.hd
  refine ⟨_, rfl, .inl ⟨rfl, _, SqL.of hW2⟩, _, rfl, p, CTb K, dx, _, _, rfl, hp2, C0, noat_Table_lies T, hf.l, l, _, 0, _, rfl, rfl, sqT_same hlr s2.gh, atI_nat (j := 0) rfl, W, _, _, rfl, rfl, hW2, by rw [sV_len, List.length_append]; show (b.cs.length + 1 + 1) + _ < _; omega, ?_⟩
  have e6 : sV ((tbW :: b.n :: b.cs) ++ kyP b.ky) ++ [V.str (S b.li.hd)] = sV (((tbW :: b.n :: b.cs) ++ kyP b.ky) ++ [b.li.hd]) := sV_app _ [b.li.hd]
  rw [e6]
  have s3 := s2.loc (o := .lst (sV (((tbW :: b.n :: b.cs) ++ kyP b.ky) ++ [b.li.hd]))) hWH gW
  have hW3 : upd H2 W (.lst (sV (((tbW :: b.n :: b.cs) ++ kyP b.ky) ++ [b.li.hd]))) W = some (.lst (sV (((tbW :: b.n :: b.cs) ++ kyP b.ky) ++ [b.li.hd]))) := upd_same
  generalize upd H2 W (.lst (sV (((tbW :: b.n :: b.cs) ++ kyP b.ky) ++ [b.li.hd]))) = H3 at *
  clear hp2 hW2 s2 e6
  have hp3 := s3.same _ _ hp
  have ew : words b = (((tbW :: b.n :: b.cs) ++ kyP b.ky) ++ [b.li.hd]) ++ b.li.tl := by
    unfold words Bs.rest
    show tbW :: b.n :: (b.cs ++ (kyP b.ky ++ b.li.hd :: b.li.tl)) = _
    simp [List.append_assoc]
  refine ⟨fun σ' H' => σ' = [some (.ref p), some (.ref W)] ∧ Step none G H G H' ∧ H' W = some (.lst (sV (words b))), ?_, ?_⟩
  · refine ⟨_, rfl, p, CTb K, dx, _, _, rfl, hp3, C0, noat_Table_lies T, hf.l, l, _, 0, _, rfl, rfl, sqT_same hlr s3.gh, atI_nat (j := 0) rfl, rfl, _, rfl, ?_⟩
    have hbl := hb.l
    revert hbl hW3 ew t4
    cases b.li with
    | dealt r ds =>
      intro t4 hW3 ew hbl
      have ed : (Lie.dealt r ds).hd = [100, 101, 97, 108, 116] := rfl
      obtain ⟨d, h1, h2⟩ := hbl
      refine ite2 (fun _ => ?_) (fun z => absurd (decide_eq_true (by rw [dealt_, ed])) z)
      refine ⟨_, rfl, .inl ⟨rfl, _, SqL.of hW3⟩, _, rfl, p, CTb K, dx, _, _, rfl, hp3, C0, noat_Table_lies T, hf.l, l, _, 1, _, rfl, rfl, sqT_same h1 s3.gh, atI_nat (j := 1) rfl, W, _, _, rfl, rfl, hW3, by rw [sV_len, List.length_append, List.length_append]; show (b.cs.length + 1 + 1) + _ + 1 < _; omega, ?_⟩
      have s4 := s3.loc (o := .lst (sV (((tbW :: b.n :: b.cs) ++ kyP b.ky) ++ [(Lie.dealt r ds).hd]) ++ [V.str (S r)])) hWH gW
      have hp4 := s4.same _ _ hp
      have d3 : ds.length + 1 ≤ 4 := t4
      refine ⟨_, rfl, .inl ⟨rfl, _, SqL.of upd_same⟩, _, rfl, p, CTb K, dx, _, _, rfl, hp4, C0, noat_Table_lies T, hf.l, l, _, 2, _, rfl, rfl, sqT_same h1 s4.gh, atI_nat (j := 2) rfl, d, _, rfl, .inr (sqT_same h2 s4.gh), fun Dl hl => ?_⟩
      have nl : W ≠ Dl := ne_of_none upd_same hl
      have s5 := s4.loc (o := .lst (sV ds)) (s4.free hl) (s4.gh.free hl)
      refine ⟨W, Dl, _, _, rfl, rfl, by rw [upd_ne nl]; exact upd_same, upd_same, by rw [List.length_append, sV_len, sV_len, List.length_append, List.length_append]; show (b.cs.length + 1 + 1) + _ + 1 + 1 + _ ≤ _; omega, rfl, s5.loc hWH gW, ?_⟩
      rw [upd_same, ew]
      refine congrArg (fun z => some (HO.lst z)) ?_
      rw [List.append_assoc]
      exact sV_app _ (r :: ds)
    | _ =>
      intro t4 hW3 ew _
      refine ite2 (fun z => absurd (V.str.inj (of_decide_eq_true z)) (by decide +kernel)) (fun _ => ⟨rfl, s3, ?_⟩)
      rw [ew]
      exact hW3.trans (by rw [show Lie.tl _ = [] from rfl, List.append_nil])
  rintro σ' H4 ⟨rfl, s4, hW4⟩
  have w8 := sum8 ok.w8
  have wn := ok.wn
  refine ⟨⟨_, rfl⟩, _, rfl, " ", W, (words b).map S, rfl, rfl, .inl (SqL.of hW4), ?_, ?_⟩
  · have l1 : (" " : Str).length = 1 := by decide +kernel
    rw [l1, List.length_map]
    omega
  · rw [sp_, join_S]
    exact q H4 s4
end Pf
namespace Bs
open PySem PySem.Spec PyProof.Rows L2 SX
variable {P : Program} {w : World} {K : PySem.W.Frag} {mg : Str → Option Value} {base : Heap}
def tbf (n : List Nat) (c k l : Addr) (t : List Nat) : List (Str × V) := putF "text" (.str (S t)) (putF "lies" (.ref l) (putF "key" (.ref k) (putF "columns" (.ref c) (putF "name" (.str (S n)) []))))
theorem fl4 {n : List Nat} {c k l : Addr} : Flds (putF "lies" (.ref l) (putF "key" (.ref k) (putF "columns" (.ref c) (putF "name" (.str (S n)) [])))) n c k l := by
  refine ⟨?_, ?_, ?_, ?_⟩
  · rw [lookup_putF, if_neg (by decide +kernel), lookup_putF, if_neg (by decide +kernel), lookup_putF, if_neg (by decide +kernel), lookup_putF, if_pos rfl]
  · rw [lookup_putF, if_neg (by decide +kernel), lookup_putF, if_neg (by decide +kernel), lookup_putF, if_pos rfl]
  · rw [lookup_putF, if_neg (by decide +kernel), lookup_putF, if_pos rfl]
  · rw [lookup_putF, if_pos rfl]
theorem tf_fl {n : List Nat} {c k l : Addr} {t : List Nat} : Flds (tbf n c k l t) n c k l := by
  obtain ⟨h1, h2, h3, h4⟩ := fl4 (n := n) (c := c) (k := k) (l := l)
  exact ⟨by unfold tbf; rw [lookup_putF, if_neg (by decide +kernel)]; exact h1, by unfold tbf; rw [lookup_putF, if_neg (by decide +kernel)]; exact h2, by unfold tbf; rw [lookup_putF, if_neg (by decide +kernel)]; exact h3, by unfold tbf; rw [lookup_putF, if_neg (by decide +kernel)]; exact h4⟩
theorem tf_t {n : List Nat} {c k l : Addr} {t : List Nat} : (tbf n c k l t).lookup ("text" : Str) = some (.str (S t)) := by unfold tbf; rw [lookup_putF, if_pos rfl]
theorem putF_le (f : Str) (v : V) : ∀ fs : List (Str × V), (putF f v fs).length ≤ fs.length + 1 := fun fs => by
  induction fs with
  | nil => simp [putF]
  | cons x r ih =>
    unfold putF
    split <;> simp <;> omega
theorem sq_off {H : Hp} {p a C dx : Addr} {fs : List (Str × V)} {xs : List V} {o : HO} (h : SqL K H a xs) (hp : H p = some (.ins C dx fs)) : SqL K (upd H p o) a xs := by
  rcases h with (h | ⟨u, h⟩) | h
  · exact .inl (.inl (by rw [upd_ne (ne_of h hp (by intro z; cases z))]; exact h))
  · exact .inl (.inr ⟨u, by rw [upd_ne (ne_of h hp (by intro z; cases z))]; exact h⟩)
  · exact .inr h
theorem sq_off' {H : Hp} {p a C dx : Addr} {fs : List (Str × V)} {xs : List V} {o : HO} (h : Sq K H a xs) (hp : H p = some (.ins C dx fs)) : Sq K (upd H p o) a xs := by
  rcases h with h | (h | ⟨u, h⟩) | h
  · exact .inl (sq_off h hp)
  · exact .inr (.inl (.inl (by rw [upd_ne (ne_of h hp (by intro z; cases z))]; exact h)))
  · exact .inr (.inl (.inr ⟨u, by rw [upd_ne (ne_of h hp (by intro z; cases z))]; exact h⟩))
  · exact .inr (.inr h)
theorem Sq.new {H : Hp} {q a : Addr} {xs : List V} {o : HO} (h : Sq K H a xs) (hq : H q = none) : Sq K (upd H q o) a xs := h.same (Same.new (Same.refl H) hq)
/-- a table that stands and never changes -/
structure TbAt (K : PySem.W.Frag) (C : Addr) (G : Hp) (a : Addr) (b : Br) : Prop where
  ex : ∃ dx c k l, G a = some (.ins C dx (tbf b.n c k l (txtB b))) ∧ BrAt K G c k l b
theorem TbAt.same {C : Addr} {G H : Hp} {a : Addr} {b : Br} (h : TbAt K C G a b) (s : Same G H) : TbAt K C H a b := by
  obtain ⟨dx, c, k, l, h1, h2⟩ := h.ex
  exact ⟨dx, c, k, l, s _ _ h1, h2.same s⟩
def spTInit (K : PySem.W.Frag) (C : Addr) : Sp := fun vs H Q _ => ∃ (G : Hp) (p dx ca ka l : Addr) (b : Br), vs = [.ref p, .str (S b.n), .ref ca, .ref ka, .ref l] ∧ Same G H ∧ G p = none ∧ H p = some (.ins C dx []) ∧ SqL K H ca (sV b.cs) ∧ Sq K H ka (sV b.ky) ∧ LieAt K G l b.li ∧ Ok b ∧
  ∀ (G' H' : Hp) (c k : Addr), Step (some p) G H G' H' → G' p = none → H' p = some (.ins C dx (tbf b.n c k l (txtB b))) → BrAt K G' c k l b → Q .non H'
theorem Step.atP {p : Addr} {G H G1 H1 : Hp} {o : HO} (a : Step (some p) G H G1 H1) (gp : G1 p = none) : Step (some p) G H G1 (upd H1 p o) where
  gg := a.gg
  gh := Same.off a.gh gp
  new := a.new
  kp b u e n := by rw [upd_ne (fun z => n (by rw [z]))]; exact a.kp b u e n
  pp b e h := by cases e; rw [upd_same]; exact fun z => by cases z
theorem Step.new1 {p q : Addr} {G H G1 H1 : Hp} {o : HO} (a : Step (some p) G H G1 H1) (hq : H1 q = none) : Step (some p) G H (upd G1 q o) (upd H1 q o) := a.new_ hq
theorem Step.absorb {G H G1 H1 : Hp} {f : Addr} {o : HO} (hf : H f = none) (a : Step (some f) G (upd H f o) G1 H1) : Step none G H G1 H1 where
  gg := a.gg
  gh := a.gh
  new b hb := by
    rcases a.new b hb with h | h
    · exact .inl h
    · by_cases c : b = f
      · exact .inr (c ▸ hf)
      · rw [upd_ne c] at h; exact .inr h
  kp b u e _ := by
    have c : b ≠ f := ne_of_none e hf
    exact a.kp b u (by rw [upd_ne c]; exact e) fun z => c (Option.some.inj z)
  pp b e := by cases e
end Bs
namespace Pf
open PySem PySem.Spec PyProof.Rows L2 Bs SX
variable {P : Program} {w : World} {K : PySem.W.Frag} {mg : Str → Option Value} {base : Heap}
theorem ok0' {nm qual : Str} {par : Arguments} {bd : List Stmt} {sco : Scope} {N ps : List Str} {k : Nat} {sp : Sp} {kws : List (Str × V)} {dvs' : List V} {a : Addr} {fd : FuncData}
    (F : FunD K nm qual par bd sco dvs' kws a fd) (S : FnScope N ps sco) (len : ∀ vs H Q E, sp vs H Q E → vs.length = ps.length)
    (body : ∀ (cdv : Value) (A : Around) (outer : List Env) (s : Shared) (H : Hp) (vs : List V) (Q : VK) (E : XK), Room k (A.deeper (envOfC qual sco s.heap.objs.size a cdv)) → sp vs H Q E →
      ∃ t, PSs (cxOf C8.CX0 P w K mg base N qual sco a cdv A outer s H E).nox bd t ∧ t { nx := fun _ H' => Q .non H', rt := Q } (start N vs) H) : FnOk P w K mg base C8.CX0 (k + 1) a fd ps sp :=
  F.ok S len fun cdv A outer s H vs Q E hr h => let ⟨t, h1, h2⟩ := body cdv A outer s H vs Q E hr h
    ⟨t, h1.nox, h2⟩
abbrev N_Table_init : List Str := ["self", "name", "columns", "key", "lies", "reason"]
theorem sc_Table_init : FnScope N_Table_init ["self", "name", "columns", "key", "lies"] (defScope s_Table_init) := ⟨rfl, rfl, rfl, by decide +kernel, rfl, by decide +kernel, by decide +kernel⟩
theorem o_init (T : Tx K mg) : ∃ fd, FnOk P w K mg base C8.CX0 5 (He.ma K (CTb K) "__init__") fd ["self", "name", "columns", "key", "lies"] (spTInit K (CTb K)) ∧ FunD K d_Table_init.2.name d_Table_init.2.qual d_Table_init.2.params d_Table_init.2.body d_Table_init.2.scope (d_Table_init.2.dvs K) (d_Table_init.2.kws K) (d_Table_init.1 K) fd := by
  obtain ⟨fd, F⟩ := f_Table_init T
  have c_fault_of := c_fault_of (P := P) (w := w) (base := base) T
  have c_row_of := c_row_of (P := P) (w := w) (base := base) T
  refine ⟨fd, ok0' F sc_Table_init (fun vs H Q E h => ?_) (fun cdv A outer s H vs Q E hr h => ?_), F⟩
  · obtain ⟨G, p, dx, ca, ka, l, b, rfl, _⟩ := h
    rfl
  obtain ⟨G, p, dx, ca, ka, l, b, rfl, hG, gp, hp, hc, hk, hl, ok, q⟩ := h
  have C0 := cls_Table_ T
  refine ⟨_, (pss_cons (ps_fld (pv 0) (pv 1) rfl)
    (pss_cons (ps_fld (pv 0) (pe_callTy call_list_of (by rfl) (z_list T) boot_list (pa_cons (pv 2) pa_nil)) rfl)
    (pss_cons (ps_fld (pv 0) (pe_callTy call_list_of (by rfl) (z_list T) boot_list (pa_cons (pv 3) pa_nil)) rfl)
    (pss_cons (ps_fld (pv 0) (pv 4) rfl)
    (pss_cons (ps_set (i := 5) sc_Table_init.nd rfl (Or.inl rfl) (C8.pe_c c_fault_of hr (by first | decide | omega) rfl (pa_cons (pv 0) pa_nil)))
    (pss_cons (ps_if (pt_cmpR op_notN (pv 5) pe_non (nomark _)) (pss_one ps_no) pss_nil)
    (pss_one (ps_fld (pv 0) (C8.pe_c c_row_of hr (by first | decide | omega) rfl (pa_cons (pv 0) pa_nil)) rfl)))))))), ?_⟩
  have npH : ∀ {q : Addr} {X : Hp}, X p ≠ none → X q = none → p ≠ q := fun h1 h2 e => h1 (by rw [e]; exact h2)
  have upn : ∀ {X : Hp} {o : HO}, upd X p o p ≠ none := fun {X o} => by rw [upd_same]; exact fun z => by cases z
  let f1 := putF "name" (V.str (S b.n)) []
  have s1 : Step (some p) G H G (upd H p (.ins (CTb K) dx f1)) := (Step.refl hG).atP gp
  refine ⟨_, rfl, _, rfl, p, CTb K, dx, [], rfl, hp, C0, noat_Table_name T, by show 0 < 1000; decide, ?_⟩
  have hc1 : SqL K (upd H p (.ins (CTb K) dx f1)) ca (sV b.cs) := sq_off hc hp
  refine ⟨_, rfl, ca, _, rfl, .inl hc1, fun c hcf => ?_⟩
  have npc := npH upn hcf
  have s2 := s1.new1 (o := .lst (sV b.cs)) hcf
  have g2 : upd G c (.lst (sV b.cs)) p = none := by rw [upd_ne npc]; exact gp
  have hp2 : upd (upd H p (.ins (CTb K) dx f1)) c (.lst (sV b.cs)) p = some (.ins (CTb K) dx f1) := by rw [upd_ne npc, upd_same]
  have hk2 : Sq K (upd (upd H p (.ins (CTb K) dx f1)) c (.lst (sV b.cs))) ka (sV b.ky) := Sq.new (sq_off' hk hp) hcf
  have hgc : upd G c (.lst (sV b.cs)) c = some (.lst (sV b.cs)) := upd_same
  have kg2 : Same G (upd G c (.lst (sV b.cs))) := s2.gg
  generalize upd G c (.lst (sV b.cs)) = G2 at *
  generalize upd (upd H p (.ins (CTb K) dx f1)) c (.lst (sV b.cs)) = H2 at *
  have l1 : f1.length ≤ 1 := putF_le _ _ _
  refine ⟨_, rfl, p, CTb K, dx, f1, rfl, hp2, C0, noat_Table_columns T, by omega, ?_⟩
  have s3 := s2.atP (o := .ins (CTb K) dx (putF "columns" (.ref c) f1)) g2
  have hk3 := sq_off' (o := .ins (CTb K) dx (putF "columns" (.ref c) f1)) hk2 hp2
  refine ⟨_, rfl, ka, _, rfl, hk3, fun k hkf => ?_⟩
  have npk := npH upn hkf
  have s4 := s3.new1 (o := .lst (sV b.ky)) hkf
  have g4 : upd G2 k (.lst (sV b.ky)) p = none := by rw [upd_ne npk]; exact g2
  have hp4 : upd (upd H2 p (.ins (CTb K) dx (putF "columns" (.ref c) f1))) k (.lst (sV b.ky)) p = some (.ins (CTb K) dx (putF "columns" (.ref c) f1)) := by rw [upd_ne npk, upd_same]
  have kg4 : Same G2 (upd G2 k (.lst (sV b.ky))) := Same.new (Same.refl G2) (s3.gh.free hkf)
  have hgk : upd G2 k (.lst (sV b.ky)) k = some (.lst (sV b.ky)) := upd_same
  generalize upd G2 k (.lst (sV b.ky)) = G4 at *
  generalize upd (upd H2 p (.ins (CTb K) dx (putF "columns" (.ref c) f1))) k (.lst (sV b.ky)) = H4 at *
  have l2 : (putF "columns" (.ref c) f1).length ≤ 2 := Nat.le_trans (putF_le _ _ _) (by omega)
  refine ⟨_, rfl, p, CTb K, dx, _, rfl, hp4, C0, noat_Table_key T, by omega, ?_⟩
  have l3 : (putF "key" (.ref k) (putF "columns" (.ref c) f1)).length ≤ 3 := Nat.le_trans (putF_le _ _ _) (by omega)
  refine ⟨_, rfl, _, rfl, p, CTb K, dx, _, rfl, upd_same, C0, noat_Table_lies T, by omega, ?_⟩
  rw [upd_upd]
  have s6 := s4.atP (o := .ins (CTb K) dx (putF "lies" (.ref l) (putF "key" (.ref k) (putF "columns" (.ref c) f1)))) g4
  have hp6 : upd H4 p (.ins (CTb K) dx (putF "lies" (.ref l) (putF "key" (.ref k) (putF "columns" (.ref c) f1)))) p = some (.ins (CTb K) dx (putF "lies" (.ref l) (putF "key" (.ref k) (putF "columns" (.ref c) f1)))) := upd_same
  generalize upd H4 p (.ins (CTb K) dx (putF "lies" (.ref l) (putF "key" (.ref k) (putF "columns" (.ref c) f1)))) = H6 at *
  have bat : BrAt K G4 c k l b := ⟨kg4 _ _ hgc, hgk, hl.same (kg2.trans kg4)⟩
  refine ⟨_, rfl, G4, p, dx, c, k, l, _, b, rfl, s6.gh, hp6, fl4, bat, ok, fun H7 s7 => ?_⟩
  have hp7 := s7.same _ _ hp6
  refine ⟨_, rfl, rfl, _, rfl, ?_⟩
  refine ite2 (fun z => absurd z (by simp)) (fun _ => ?_)
  refine ⟨_, rfl, G4, p, dx, c, k, l, _, b, rfl, s7.gh, hp7, fl4, bat, ok, fun H8 s8 => ?_⟩
  have hp8 := s8.same _ _ hp7
  have l4 : (putF "lies" (.ref l) (putF "key" (.ref k) (putF "columns" (.ref c) f1))).length ≤ 4 := Nat.le_trans (putF_le _ _ _) (by omega)
  refine ⟨_, rfl, p, CTb K, dx, _, rfl, hp8, C0, noat_Table_text T, by omega, ?_⟩
  exact q G4 _ c k (((s6.trans s7.some_).trans s8.some_).atP g4) g4 upd_same bat
end Pf
namespace Bs
open PySem PySem.Spec PyProof.Rows L2 SX
variable {P : Program} {w : World} {K : PySem.W.Frag} {mg : Str → Option Value} {base : Heap}
/-- the defaults of key and lies -/
abbrev dK (K : PySem.W.Frag) : V := .ref (Hd.kwAt ("Table", some "__init__") "key" K)
abbrev dL (K : PySem.W.Frag) : V := .ref (Hd.kwAt ("Table", some "__init__") "lies" K)
end Bs
namespace Pf
open PySem PySem.Spec PyProof.Rows L2 Bs SX
variable {P : Program} {w : World} {K : PySem.W.Frag} {mg : Str → Option Value} {base : Heap}
theorem kws_T : d_Table_init.2.kws K = [(("key" : Str), dK K), (("lies" : Str), dL K)] := rfl

theorem kp_Table_key_lies (T : Tx K mg) : MakP P w K mg base 5 "Table" (CTb K) 2 ["key", "lies"] (fun vs zs => vs ++ zs) (spTInit K (CTb K)) := by
  obtain ⟨fd, RO, F⟩ := o_init (P := P) (w := w) (base := base) T
  obtain ⟨mv, hb⟩ := FunD.kbinds0 F 3 ["key", "lies"] [] (fun {α} (vs mv zs : List α) => vs ++ zs) (by rw [kws_T]; exact fun z => by cases z) (fun q h => by cases h) (fun r1 _ r3 => r1.append r3)
    (ps := ["self", "name", "columns", "key", "lies"]) (fun D doc pm an cdv ct us mv ws h1 h2 h3 => match us, mv, ws, h1, h2, h3 with | [_, _, _], [], [_, _], _, _, _ => rfl)
  exact ⟨_, fd, _, _, mkr_Table_ T, RO, g_Table T, hb⟩
theorem kp_Table_lies (T : Tx K mg) : MakP P w K mg base 5 "Table" (CTb K) 2 ["lies"] (fun vs zs => vs ++ ([dK K] ++ zs)) (spTInit K (CTb K)) := by
  obtain ⟨fd, RO, F⟩ := o_init (P := P) (w := w) (base := base) T
  obtain ⟨mv, hb⟩ := FunD.kbinds0 F 3 ["lies"] [("key", dK K)] (fun {α} (vs mv zs : List α) => vs ++ (mv ++ zs)) (by rw [kws_T]; exact fun z => by cases z) (fun q h => by rw [kws_T, List.mem_singleton.mp h]; exact List.mem_cons_self) (fun r1 r2 r3 => r1.append (r2.append r3))
    (ps := ["self", "name", "columns", "key", "lies"]) (fun D doc pm an cdv ct us mv ws h1 h2 h3 => match us, mv, ws, h1, h2, h3 with | [_, _, _], [_], [_], _, _, _ => ⟨_, _, _, _, _, _, rfl, rfl, rfl⟩)
  exact ⟨_, fd, _, _, mkr_Table_ T, RO, g_Table T, hb⟩
theorem kp_Table_key (T : Tx K mg) : MakP P w K mg base 5 "Table" (CTb K) 2 ["key"] (fun vs zs => vs ++ (zs ++ [dL K])) (spTInit K (CTb K)) := by
  obtain ⟨fd, RO, F⟩ := o_init (P := P) (w := w) (base := base) T
  obtain ⟨mv, hb⟩ := FunD.kbinds0 F 3 ["key"] [("lies", dL K)] (fun {α} (vs mv zs : List α) => vs ++ (zs ++ mv)) (by rw [kws_T]; exact fun z => by cases z) (fun q h => by rw [kws_T, List.mem_singleton.mp h]; exact List.mem_cons_of_mem _ List.mem_cons_self) (fun r1 r2 r3 => r1.append (r3.append r2))
    (ps := ["self", "name", "columns", "key", "lies"]) (fun D doc pm an cdv ct us mv ws h1 h2 h3 => match us, mv, ws, h1, h2, h3 with | [_, _, _], [_], [_], _, _, _ => ⟨_, _, _, _, _, _, rfl, rfl, rfl⟩)
  exact ⟨_, fd, _, _, mkr_Table_ T, RO, g_Table T, hb⟩
theorem m_Table (T : Tx K mg) : C8.Mak P w K mg base 5 "Table" (CTb K) (spTInit K (CTb K)) [dK K, dL K] := by
  obtain ⟨fd, RO, F⟩ := o_init (P := P) (w := w) (base := base) T
  obtain ⟨ds, hd, hb⟩ := FunD.binds0 F 3 (ps := ["self", "name", "columns", "key", "lies"]) (by rw [kws_T]; exact fun z => by cases z) (by rw [kws_T]; rfl)
    (fun D doc pm an cdv ct us ks h1 h2 => match us, ks, h1, h2 with | [_, _, _], [_, _], _, _ => ⟨_, _, _, _, _, _, rfl, rfl, _, _, _, _, _, _, rfl, rfl, rfl⟩)
  exact ⟨_, fd, _, ds, mkr_Table_ T, RO, g_Table T, hb, hd⟩
end Pf
namespace Bs
open PySem PySem.Spec PyProof.Rows L2 SX
variable {P : Program} {w : World} {K : PySem.W.Frag} {mg : Str → Option Value} {base : Heap}
theorem mkT {C : Addr} {G H : Hp} {ca ka l x dx : Addr} {b : Br} {Q : VK} {E : XK} (hG : Same G H) (hc : SqL K H ca (sV b.cs)) (hk : Sq K H ka (sV b.ky)) (hl : LieAt K G l b.li) (ok : Ok b)
    (k : ∀ (G' H' : Hp), Step none G H G' H' → TbAt K C G' x b → H x = none → Q (.ref x) H') (hx : H x = none) (hdx : H dx = none) (ne : dx ≠ x) :
    spTInit K C [.ref x, .str (S b.n), .ref ca, .ref ka, .ref l] (upd (upd H dx (.own x)) x (.ins C dx [])) (fun v H3 => v = .non ∧ Q (.ref x) H3) E := by
  have s0 : Step none G H G (upd H dx (.own x)) := (Step.refl hG).loc hdx (hG.free hdx)
  have gx := hG.free hx
  have hx1 : upd H dx (.own x) x = none := by rw [upd_ne ne.symm]; exact hx
  have n1 : Same H (upd H dx (.own x)) := Same.new (Same.refl H) hdx
  have n2 : Same (upd H dx (.own x)) (upd (upd H dx (.own x)) x (.ins C dx [])) := Same.new (Same.refl _) hx1
  refine ⟨G, x, dx, ca, ka, l, b, rfl, (s0.gh).trans n2, gx, upd_same, sqL_same hc (n1.trans n2), hk.same (n1.trans n2), hl, ok, fun G' H' c k' st gp' hp' bat => ⟨rfl, ?_⟩⟩
  have st1 := s0.trans (Step.absorb hx1 st)
  have st2 := st1.freeze (q := x) hx hp' gp'
  exact k _ H' st2 ⟨dx, c, k', l, upd_same, bat.same (Same.new (Same.refl G') gp')⟩ hx
def spWL (K : PySem.W.Frag) (C : Addr) : Sp := fun vs H Q _ => ∃ (G : Hp) (a l : Addr) (b : Br) (li : Lie), vs = [.ref a, .ref l] ∧ Same G H ∧ TbAt K C G a b ∧ Ok b ∧ LieAt K G l li ∧ OkL b.cs li ∧ ∀ (G' H' : Hp) (x : Addr), Step none G H G' H' → TbAt K C G' x { b with li := li } → Q (.ref x) H'
def spWK (K : PySem.W.Frag) (C : Addr) : Sp := fun vs H Q _ => ∃ (G : Hp) (a p : Addr) (b : Br) (ks : List (List Nat)), vs = [.ref a, .ref p] ∧ Same G H ∧ TbAt K C G a b ∧ Ok b ∧ SqT K H p (sV ks) ∧ Sub ks b.cs ∧ ∀ (G' H' : Hp) (x : Addr), Step none G H G' H' → TbAt K C G' x { b with ky := ks } → Q (.ref x) H'
def spWKr (K : PySem.W.Frag) (C : Addr) : Sp := fun vs H Q E => ∃ ws rest : List V, vs = ws ++ rest ∧ ws.length = 1 ∧ rest.length ≤ sizeLine ∧ ∀ p, H p = none → spWK K C (ws ++ [V.ref p]) (upd H p (.tup rest)) Q E
theorem tbf_wl {n : List Nat} {c k l : Addr} {t : List Nat} : (tbf n c k l t).lookup ("with_lie" : Str) = none ∧ (tbf n c k l t).lookup ("with_key" : Str) = none := by
  unfold tbf
  constructor
  · rw [lookup_putF, if_neg (by decide +kernel), lookup_putF, if_neg (by decide +kernel), lookup_putF, if_neg (by decide +kernel), lookup_putF, if_neg (by decide +kernel), lookup_putF, if_neg (by decide +kernel)]
    rfl
  · rw [lookup_putF, if_neg (by decide +kernel), lookup_putF, if_neg (by decide +kernel), lookup_putF, if_neg (by decide +kernel), lookup_putF, if_neg (by decide +kernel), lookup_putF, if_neg (by decide +kernel)]
    rfl
def spEqTb (K : PySem.W.Frag) (C : Addr) : Addr → V → Bool → Hp → Prop := fun a y r H => ∃ (G : Hp) (b : Br), Same G H ∧ TbAt K C G a b ∧
  ((∃ (a2 : Addr) (b2 : Br), y = .ref a2 ∧ TbAt K C G a2 b2 ∧ r = decide (txtB b = txtB b2)) ∨ (r = false ∧ ∃ t : String, t ∈ ["NoneType", "bool", "int", "str", "list", "tuple", "dict"] ∧ TyX K H y (.type t)))
def spStrTb (K : PySem.W.Frag) (C : Addr) : Addr → Str → Hp → Prop := fun a x H => ∃ (G : Hp) (b : Br), Same G H ∧ TbAt K C G a b ∧ x = S (txtB b)
end Bs
namespace Pf
open PySem PySem.Spec PyProof.Rows L2 Bs SX
variable {P : Program} {w : World} {K : PySem.W.Frag} {mg : Str → Option Value} {base : Heap}
abbrev N_Table_with_lie : List Str := ["self", "lies"]
theorem sc_Table_with_lie : FnScope N_Table_with_lie ["self", "lies"] (defScope s_Table_with_lie) := ⟨rfl, rfl, rfl, by decide +kernel, rfl, by decide +kernel, by decide +kernel⟩
theorem t_with_lie (T : Tx K mg) : C8.Met P w K mg base 7 (CTb K) "with_lie" (spWL K (CTb K)) [] := by
  obtain ⟨fd, F⟩ := f_Table_with_lie T
  have kp_Table_key_lies := kp_Table_key_lies (P := P) (w := w) (base := base) T
  have RB : Binds K fd ["self", "lies"] [] := F.bindsN fun _ _ _ _ _ _ us hl => match us, hl with | [_, _], _ => rfl
  have RO : FnOk P w K mg base C8.CX0 7 (He.ma K (CTb K) "with_lie") fd ["self", "lies"] (spWL K (CTb K)) := by
    refine ok0' F sc_Table_with_lie (fun vs H Q E h => ?_) (fun cdv A outer s H vs Q E hr h => ?_)
    · obtain ⟨G, a, l, b, li, rfl, _⟩ := h
      rfl
    obtain ⟨G, a, l, b, li, rfl, hG, ha, ok, hl, okl, q⟩ := h
    have C0 := cls_Table_ T
    obtain ⟨dx, c, k, l0, h1, h2⟩ := ha.ex
    have hf := tf_fl (n := b.n) (c := c) (k := k) (l := l0) (t := txtB b)
    have ha1 := hG _ _ h1
    refine ⟨_, (pss_one (ps_ret (pe_mkp kp_Table_key_lies hr (by first | decide | omega) rfl (pa_cons (pe_fldK (K := K) rfl (pv 0) (by rfl)) (pa_cons (pe_fldK (K := K) rfl (pv 0) (by rfl)) pa_nil)) (pk_cons (pe_fldK (K := K) rfl (pv 0) (by rfl)) (pk_cons (pv 1) pk_nil))))), ?_⟩
    refine ⟨_, rfl, a, CTb K, dx, _, _, rfl, ha1, C0, noat_Table_name T, hf.n, _, rfl, a, CTb K, dx, _, _, rfl, ha1, C0, noat_Table_columns T, hf.c, _, rfl, a, CTb K, dx, _, _, rfl, ha1, C0, noat_Table_key T, hf.k, _, rfl, rfl, rfl, fun x dx' hx hdx ne => ?_⟩
    exact mkT (b := { b with li := li }) hG (SqL.of (hG _ _ h2.c)) (.inl (SqL.of (hG _ _ h2.k))) hl ⟨ok.n, ok.c, ok.k, okl⟩ (fun G' H' st tb _ => q G' H' x st tb) hx hdx ne
  exact ⟨_, fd, _, _, cls_Table_ T, meth_Table_with_lie T, RO, RB, .nil⟩
abbrev N_Table_with_key : List Str := ["self", "columns"]
theorem sc_Table_with_key : FnScope N_Table_with_key ["self", "columns"] (defScope s_Table_with_key) := ⟨rfl, rfl, rfl, by decide +kernel, rfl, by decide +kernel, by decide +kernel⟩
theorem tr_with_key (T : Tx K mg) : MetR P w K mg base 7 (CTb K) "with_key" (spWKr K (CTb K)) := by
  obtain ⟨fd, F⟩ := f_Table_with_key T
  have kp_Table_key_lies := kp_Table_key_lies (P := P) (w := w) (base := base) T
  obtain ⟨oc, od, dV, kV, doc, pm, an, cdv, ct, osl, rfl, lk, hcd, hD, _⟩ := F.ex
  obtain ⟨_, rfl⟩ | ⟨hne, _⟩ := hD
  rotate_left
  · exact absurd rfl hne
  refine ⟨_, cls_Table_ T, meth_Table_with_key T, StX.fn_star (ps := ["self"]) (pv := "columns") (N := N_Table_with_key) (sp := spWK K (CTb K)) lk hcd sc_Table_with_key StX.cxUp_none (fun us rest hl => match us, rest, hl with | [_], [], _ => rfl | [_], _ :: _, _ => rfl) (fun A outer s H vs Q E hr h => ?_)⟩
  obtain ⟨G, a, p, b, ks, rfl, hG, ha, ok, hp, hs, q⟩ := h
  have C0 := cls_Table_ T
  obtain ⟨dx, c, k, l0, h1, h2⟩ := ha.ex
  have hf := tf_fl (n := b.n) (c := c) (k := k) (l := l0) (t := txtB b)
  have ha1 := hG _ _ h1
  suffices hh : ∃ t, PSs (cxOf C8.CX0 P w K mg base N_Table_with_key d_Table_with_key.2.qual d_Table_with_key.2.scope (d_Table_with_key.1 K) cdv A outer s H E).nox d_Table_with_key.2.body t ∧ t { nx := fun _ H' => Q .non H', rt := Q } (start N_Table_with_key [.ref a, .ref p]) H from
    let ⟨t, x1, x2⟩ := hh
    ⟨t, x1.nox, x2⟩
  refine ⟨_, (pss_one (ps_ret (pe_mkp kp_Table_key_lies hr (by first | decide | omega) rfl (pa_cons (pe_fldK (K := K) rfl (pv 0) (by rfl)) (pa_cons (pe_fldK (K := K) rfl (pv 0) (by rfl)) pa_nil)) (pk_cons (pv 1) (pk_cons (pe_fldK (K := K) rfl (pv 0) (by rfl)) pk_nil))))), ?_⟩
  refine ⟨_, rfl, a, CTb K, dx, _, _, rfl, ha1, C0, noat_Table_name T, hf.n, _, rfl, a, CTb K, dx, _, _, rfl, ha1, C0, noat_Table_columns T, hf.c, _, rfl, _, rfl, a, CTb K, dx, _, _, rfl, ha1, C0, noat_Table_lies T, hf.l, rfl, rfl, fun x dx' hx hdx ne => ?_⟩
  exact mkT (b := { b with ky := ks }) hG (SqL.of (hG _ _ h2.c)) (.inr hp) h2.l ⟨ok.n, ok.c, hs, ok.l⟩ (fun G' H' st tb _ => q G' H' x st tb) hx hdx ne
abbrev N_Table_eq : List Str := ["self", "other"]
theorem sc_Table_eq : FnScope N_Table_eq ["self", "other"] (defScope s_Table_eq) := ⟨rfl, rfl, rfl, by decide +kernel, rfl, by decide +kernel, by decide +kernel⟩
theorem o_eqTb (T : Tx K mg) : ∃ fd, FnOk P w K mg base C8.CX0 1 (He.ma K (CTb K) "__eq__") fd ["self", "other"] (spCmp (spEqTb K (CTb K))) ∧ Binds K fd ["self", "other"] [] := by
  obtain ⟨fd, F⟩ := f_Table_eq T
  refine ⟨fd, ok0' F sc_Table_eq (fun vs H Q E h => ?_) (fun cdv A outer s H vs Q E hr h => ?_), F.bindsN fun _ _ _ _ _ _ us hl => match us, hl with | [_, _], _ => rfl⟩
  · obtain ⟨a, y, r, rfl, _⟩ := h
    rfl
  obtain ⟨a, y, r, rfl, ⟨G, b, hG, ha, hy⟩, q⟩ := h
  have C0 := cls_Table_ T
  have I0 := Hd.insB_ok (ex_0 T)
  have pe_g_Table : ∀ {X : Cx} {pos : Pos}, X.mg = mg → Gl X "Table" → PE X (.Name "Table" pos) (tC (.ref (CTb K))) := fun h1 h2 => C8.pe_gc h2 ⟨_, by rw [h1]; exact g_Table T, rfl⟩
  refine ⟨_, (pss_one (ps_ret (pe_and (pe_callB (call_isiK' (K := K) rfl) (by rfl) (z_isinstance T) boot_isinstance (pa_cons (pv 1) (pa_cons (pe_g_Table rfl rfl) pa_nil))) (pe_one (pe_cmpR op_eq (pe_fldK (K := K) rfl (pv 0) (by rfl)) (pe_fldK (K := K) rfl (pv 1) (by rfl)) (nomark _)))))), ?_⟩
  obtain ⟨dx, c, k, l0, e3, _⟩ := ha.ex
  rcases hy with ⟨a2, b2, rfl, hm2, er⟩ | ⟨er, t, ht, ty⟩
  · obtain ⟨dx2, c2, k2, l2, f3, _⟩ := hm2.ex
    refine ⟨_, rfl, .ref a2, .ref (CTb K), .ref (CTb K), .ref (CTb K), true, rfl, .own _, .base (.ins (hG _ _ f3) C0 I0.ha I0.hn I0.htk I0.hm), I0.me, true, rfl, iteT ?_⟩
    refine ⟨_, rfl, a, CTb K, dx, _, _, rfl, hG _ _ e3, C0, noat_Table_text T, tf_t, _, rfl, a2, CTb K, dx2, _, _, rfl, hG _ _ f3, C0, noat_Table_text T, tf_t, rfl, ?_⟩
    have e4 : decide (V.str (S (txtB b)) = V.str (S (txtB b2))) = r := by
      rw [er]
      by_cases c : txtB b = txtB b2
      · rw [c, decide_eq_true rfl, decide_eq_true rfl]
      · rw [decide_eq_false c, decide_eq_false fun h => c (S_inj (V.str.inj h))]
    rw [e4]
    exact q
  · have kk := Hd.kitsB_ok (ex_1 T) ht
    refine ⟨_, rfl, y, .ref (CTb K), .type t, .ref (CTb K), false, rfl, .own _, ty, kk.1, false, rfl, iteF ?_⟩
    rw [← er]
    exact q
abbrev N_Table_str : List Str := ["self"]
theorem sc_Table_str : FnScope N_Table_str ["self"] (defScope s_Table_str) := ⟨rfl, rfl, rfl, by decide +kernel, rfl, by decide +kernel, by decide +kernel⟩
theorem o_strTb (T : Tx K mg) : ∃ fd, FnOk P w K mg base C8.CX0 1 (He.ma K (CTb K) "__str__") fd ["self"] (spStr (spStrTb K (CTb K))) ∧ Binds K fd ["self"] [] := by
  obtain ⟨fd, F⟩ := f_Table_str T
  refine ⟨fd, ok0' F sc_Table_str (fun vs H Q E h => ?_) (fun cdv A outer s H vs Q E hr h => ?_), F.bindsN fun _ _ _ _ _ _ us hl => match us, hl with | [_], _ => rfl⟩
  · obtain ⟨a, x, rfl, _⟩ := h
    rfl
  obtain ⟨a, x, rfl, ⟨G, b, hG, ha, ex⟩, q⟩ := h
  obtain ⟨dx, c, k, l0, e3, _⟩ := ha.ex
  refine ⟨_, (pss_one (ps_ret (pe_callTy SkE.call_str_str (by rfl) (z_str T) boot_str (pa_cons (pe_fldK (K := K) rfl (pv 0) (by rfl)) pa_nil)))), ?_⟩
  refine ⟨_, rfl, a, CTb K, dx, _, _, rfl, hG _ _ e3, cls_Table_ T, noat_Table_text T, tf_t, _, rfl, ?_⟩
  rw [← ex]
  exact q
theorem own_eq_Table (T : Tx K mg) {X : Cx} (h1 : X.prog = P) (h2 : X.w = w) (h3 : X.K = K) (h4 : X.mg = mg) (h5 : X.base = base) : OwnE X 1 (CTb K) (spEqTb K (CTb K)) := by
  subst h1 h2 h3 h4 h5
  obtain ⟨fd, O, b⟩ := o_eqTb (P := X.prog) (w := X.w) (base := X.base) T
  exact ⟨⟨_, fd, _, O, (meth_Table_eq T).at_, (meth_Table_eq T).fn, b⟩, (Hd.insB_ok (ex_0 T)).hm, He.eqO_ok (ex_2 T)⟩
theorem own_str_Table (T : Tx K mg) {X : Cx} (h1 : X.prog = P) (h2 : X.w = w) (h3 : X.K = K) (h4 : X.mg = mg) (h5 : X.base = base) : OwnS X 1 (CTb K) (spStrTb K (CTb K)) := by
  subst h1 h2 h3 h4 h5
  obtain ⟨fd, O, b⟩ := o_strTb (P := X.prog) (w := X.w) (base := X.base) T
  exact ⟨⟨_, fd, _, O, (meth_Table_str T).at_, (meth_Table_str T).fn, b⟩⟩
end Pf
namespace Bs
open PySem PySem.Spec PyProof.Rows L2
variable {P : Program} {w : World} {K : PySem.W.Frag} {mg : Str → Option Value} {base : Heap}
theorem cutV_map (ns : List Int) (lo hi : Option Int) : ∃ ms : List Int, cutV (ns.map V.int) lo hi = ms.map V.int ∧ ms.length ≤ ns.length ∧ (∀ h : Nat, lo = none → hi = some (h : Int) → ms.length ≤ h) := by
  refine ⟨(ns.drop (HT.sIx ns.length 0 lo)).take (HT.sIx ns.length ns.length hi - HT.sIx ns.length 0 lo), ?_, ?_, fun h e1 e2 => ?_⟩
  · unfold cutV
    rw [List.length_map, List.map_take, List.map_drop]
  · rw [List.length_take, List.length_drop]; omega
  · subst e1 e2
    rw [HT.sIx_nat, List.length_take]
    omega
theorem dp_ints {H : Hp} : ∀ ns : List Int, DpAll K H (ns.map V.int) (ns.map PyData.int)
  | [] => .nil
  | n :: r => .cons (.int n) (dp_ints r)
theorem lay_ints : ∀ ns : List Int, PyData.canLayAll0 (ns.map PyData.int) = true ∧ PyData.depthAll (ns.map PyData.int) ≤ 1
  | [] => ⟨by simp [PyData.canLayAll0], by simp [PyData.depthAll]⟩
  | n :: r => by
    obtain ⟨h1, h2⟩ := lay_ints r
    refine ⟨by simp [PyData.canLayAll0, PyData.canLay0, h1], ?_⟩
    simp only [List.map_cons, PyData.depthAll, PyData.depth]
    omega
theorem shaped_ints (ns : List Int) : SeqAt.shaped (.list (ns.map PyData.int)) = true := by
  obtain ⟨h1, h2⟩ := lay_ints ns
  unfold SeqAt.shaped
  rw [PyData.canLay0, h1, PyData.depth, Bool.true_and, decide_eq_true_eq]
  omega
theorem eqv_nil (ns : List Int) : (PyData.list (ns.map PyData.int)).eqv (.list []) = ns.isEmpty := by
  cases ns with
  | nil => simp [PyData.eqv, PyData.eqvAll]
  | cons n r => simp [PyData.eqv, PyData.eqvAll]
/-! ### a pen that is a list: the cells, the place of the next one, what is left of a great one -/
abbrev pen3 (c : Addr) (i l : Int) : List V := [.ref c, .int i, .int l]
structure Pq (G H : Hp) (p : Addr) (n : Nat) : Prop where
  gh : Same G H
  out : G p = none
  pen : ∃ (c : Addr) (ns : List Int) (i l : Int), H p = some (.lst (pen3 c i l)) ∧ G c = some (.lst (ns.map V.int)) ∧ ns.length ≤ 63 ∧ 0 ≤ i ∧ i ≤ n ∧ 0 ≤ l
theorem Pq.there {G H : Hp} {p : Addr} {n : Nat} (h : Pq G H p n) : H p ≠ none := by
  obtain ⟨_, _, _, _, e, _⟩ := h.pen
  rw [e]
  exact fun z => by cases z
theorem Pq.mono {G H : Hp} {p : Addr} {n m : Nat} (h : Pq G H p n) (l : n ≤ m) : Pq G H p m := by
  obtain ⟨c, ns, i, q, h1, h2, h3, h4, h5, h6⟩ := h.pen
  exact ⟨h.gh, h.out, c, ns, i, q, h1, h2, h3, h4, by omega, h6⟩
theorem Pq.step {G H G1 H1 : Hp} {p : Addr} {n : Nat} (h : Pq G H p n) (s : Step none G H G1 H1) : Pq G1 H1 p n := by
  obtain ⟨c, ns, i, q, h1, h2, h3, h4, h5, h6⟩ := h.pen
  exact ⟨s.gh, s.out h.out h.there, c, ns, i, q, s.same _ _ h1, s.gg _ _ h2, h3, h4, h5, h6⟩
theorem Pq.went {G H G1 H1 : Hp} {p : Addr} {n : Nat} (h : Pq G H p n) (s : Step none G H G1 H1) : Step (some p) G H G1 H1 ∧ Pq G1 H1 p n := ⟨s.some_, h.step s⟩
theorem Pq.new_ {G H : Hp} {p q : Addr} {n : Nat} {o : HO} (h : Pq G H p n) (hq : H q = none) : Step (some p) G H (upd G q o) (upd H q o) ∧ Pq (upd G q o) (upd H q o) p n := h.went ((Step.refl h.gh).new_ hq)
/-- a new thing of one's own -/
theorem Pq.loc {G H : Hp} {p q : Addr} {n : Nat} {o : HO} (h : Pq G H p n) (hq : H q = none) : Step (some p) G H G (upd H q o) ∧ Pq G (upd H q o) p n := h.went ((Step.refl h.gh).loc hq (h.gh.free hq))
theorem Pq.local_ {G H : Hp} {p l : Addr} {n : Nat} {o : HO} (h : Pq G H p n) (hl : G l = none) (ne : l ≠ p) : Pq G (upd H l o) p n := by
  obtain ⟨c, ns, i, q, h1, h2, h3, h4, h5, h6⟩ := h.pen
  exact ⟨Same.off h.gh hl, h.out, c, ns, i, q, by rw [upd_ne ne.symm]; exact h1, h2, h3, h4, h5, h6⟩
theorem Pq.put {G H : Hp} {p c : Addr} {n : Nat} {ns : List Int} {i l : Int} (gh : Same G H) (out : G p = none) (hp : H p ≠ none) (hc : G c = some (.lst (ns.map V.int))) (hl : ns.length ≤ 63) (h0 : 0 ≤ i) (h1 : i ≤ n) (h2 : 0 ≤ l) :
    Step (some p) G H G (upd H p (.lst (pen3 c i l))) ∧ Pq G (upd H p (.lst (pen3 c i l))) p n := by
  have g : Same G (upd H p (.lst (pen3 c i l))) := Same.off gh out
  refine ⟨⟨Same.refl G, g, fun b hb => .inl hb, fun b o e n => ?_, fun b e h => ?_⟩, g, out, c, ns, i, l, upd_same, hc, hl, h0, h1, h2⟩
  · rw [upd_ne (fun z => n (by rw [z]))]; exact e
  · rw [Option.some.inj e, upd_same]; exact fun z => by cases z
theorem mul_bd {a b A B : Int} (h1 : 0 ≤ a) (h2 : a ≤ A) (h3 : 0 ≤ b) (h4 : b ≤ B) : 0 ≤ a * b ∧ a * b ≤ A * B :=
  ⟨Int.mul_nonneg h1 h3, Int.mul_le_mul h2 h4 h3 (Int.le_trans h1 h2)⟩
def spPenQ (K : PySem.W.Frag) : Sp := fun vs H Q _ => ∃ (a : Addr) (ns : List Int), vs = [.ref a] ∧ SqL K H a (ns.map V.int) ∧ ∀ (p : Addr) (G' H' : Hp), Same H H' → Pq G' H' p 0 → Q (.ref p) H'
def spDrQ : Sp := fun vs H Q _ => ∃ (G : Hp) (p : Addr) (n : Nat) (m : Int), vs = [.ref p, .int m] ∧ Pq G H p n ∧ n ≤ 1000000 ∧ 0 < m ∧ m < 1000000 ∧
  ∀ (d : Int) (G' H' : Hp), Step (some p) G H G' H' → Pq G' H' p (n + 1) → 0 ≤ d → d < m → Q (.int d) H'
end Bs
namespace Pf
open PySem PySem.Spec PyProof.Rows L2 Bs
variable {P : Program} {w : World} {K : PySem.W.Frag} {mg : Str → Option Value} {base : Heap}
abbrev N_Lpen : List Str := ["_law_script"]
theorem sc_Lpen : FnScope N_Lpen ["_law_script"] (defScope s_Lpen) := ⟨rfl, rfl, rfl, by decide +kernel, rfl, by decide +kernel, by decide +kernel⟩
theorem c_Lpen (T : Tx K mg) : C8.Cal P w K mg base 1 "_law_pen" (spPenQ K) [] := by
  obtain ⟨fd, F⟩ := f_Lpen T
  refine mkCal F (g_law_pen T) (F.bindsN fun _ _ _ _ _ _ us hl => match us, hl with | [_], _ => rfl) .nil sc_Lpen (fun vs H Q E h => ?_) (fun cdv A outer s H vs Q E hr h => ?_)
  · obtain ⟨a, ns, rfl, _⟩ := h
    rfl
  obtain ⟨a, ns, rfl, hS, q⟩ := h
  refine ⟨_, (pss_one (ps_ret (pe_lst (pa_cons (pe_callTy call_list_of (by rfl) (z_list T) boot_list (pa_cons (pe_slice sl_list (pv 0) po_none (po_some pe_int)) pa_nil)) (pa_cons pe_int (pa_cons pe_int pa_nil)))))), ?_⟩
  refine ⟨_, rfl, _, rfl, a, _, rfl, hS, fun l hl => ?_⟩
  obtain ⟨ms, e1, _, e3⟩ := cutV_map ns none (some (63 : Nat))
  have k1 : Same H (upd H l (.lst (cutV (ns.map V.int) none (some 63)))) := Same.new (Same.refl H) hl
  have hlv : upd H l (.lst (cutV (ns.map V.int) none (some 63))) l = some (.lst (ms.map V.int)) := by rw [upd_same]; exact congrArg (fun z => some (HO.lst z)) e1
  generalize upd H l (.lst (cutV (ns.map V.int) none (some 63))) = H1 at *
  refine ⟨l, _, rfl, .inl (SqL.of hlv), fun c hc => ⟨by show 3 ≤ sizeLine; decide, fun p hp => ?_⟩⟩
  have npc : p ≠ c := fun z => by rw [z, upd_same] at hp; cases hp
  refine q p (upd (fun _ => none) c (.lst (ms.map V.int))) _ ((k1.trans (Same.new (Same.refl H1) hc)).trans (Same.new (Same.refl _) hp)) ⟨fun b o eb => ?_, by rw [upd_ne npc], c, ms, 0, 0, upd_same, upd_same, e3 63 rfl rfl, by decide, by decide, by decide⟩
  by_cases cb : b = c
  · subst cb
    rw [upd_same] at eb
    rw [upd_ne npc.symm, upd_same, ← eb]
  · rw [upd_ne cb] at eb; cases eb
abbrev N_Ldraw : List Str := ["_law_pen_here", "_law_many", "_law_at", "_law_cell", "_law_mixed", "_law_digit", "_law_great"]
theorem sc_Ldraw : FnScope N_Ldraw ["_law_pen_here", "_law_many"] (defScope s_Ldraw) := ⟨rfl, rfl, rfl, by decide +kernel, rfl, by decide +kernel, by decide +kernel⟩
theorem c_Ldraw (T : Tx K mg) : C8.Cal P w K mg base 1 "_law_draw" spDrQ [] := by
  obtain ⟨fd, F⟩ := f_Ldraw T
  refine mkCal F (g_law_draw T) (F.bindsN fun _ _ _ _ _ _ us hl => match us, hl with | [_, _], _ => rfl) .nil sc_Ldraw (fun vs H Q E h => ?_) (fun cdv A outer s H vs Q E hr h => ?_)
  · obtain ⟨G, p, n, m, rfl, _⟩ := h
    rfl
  obtain ⟨G, p, n, m, rfl, hP, hn, hm0, hm1, q⟩ := h
  obtain ⟨c, ns, i, l, hp, hc, hl, hi0, hin, hl0⟩ := id hP.pen
  have hu := hu_of hr
  refine ⟨_, (pss_cons (ps_if (pt_cmpR op_gt (pe_ix (ix_listK (K := K) rfl) (pv 0) pe_int (fun _ _ => rfl)) pe_int (nomark _)) (pss_cons (ps_set (i := 5) sc_Ldraw.nd rfl (Or.inl rfl) (pe_op op_modN (pe_callTy call_int1 (by rfl) (z_int T) boot_int (pa_cons (pe_ix (ix_listK (K := K) rfl) (pv 0) pe_int (fun _ _ => rfl)) pa_nil)) (pv 1)))
    (pss_cons (ps_asg (pe_op op_fdivN (pe_callTy call_int1 (by rfl) (z_int T) boot_int (pa_cons (pe_ix (ix_listK (K := K) rfl) (pv 0) pe_int (fun _ _ => rfl)) pa_nil)) (pv 1)) (pg_sub (pv 0) pe_int set_list))
    (pss_one (ps_ret (pv 5))))) pss_nil)
    (pss_cons (ps_set (i := 2) sc_Ldraw.nd rfl (Or.inl rfl) (pe_ix (ix_listK (K := K) rfl) (pv 0) pe_int (fun _ _ => rfl)))
    (pss_cons (ps_asg (pe_op op_add (pv 2) pe_int) (pg_sub (pv 0) pe_int set_list))
    (pss_cons (ps_set (i := 3) sc_Ldraw.nd rfl (Or.inl rfl) (pe_op op_add (pe_op op_mul pe_int (pv 2)) pe_int))
    (C8.pss_cut (ps_if (pt_cmpR (op_neD hr.units) (pe_ix (ix_listK (K := K) rfl) (pv 0) pe_int (fun _ _ => rfl)) (pe_lst pa_nil) (nomark _)) (pss_one (ps_set (i := 3) sc_Ldraw.nd rfl (Or.inl rfl) (pe_ix (ix_listK (K := K) rfl) (pe_ix (ix_listK (K := K) rfl) (pv 0) pe_int (fun _ _ => rfl)) (pe_op op_modN (pe_callTy call_int1 (by rfl) (z_int T) boot_int (pa_cons (pv 2) pa_nil)) (pe_callB (call_len_seqK (K := K) rfl) (by rfl) (z_len T) boot_len (pa_cons (pe_ix (ix_listK (K := K) rfl) (pv 0) pe_int (fun _ _ => rfl)) pa_nil))) (fun _ _ => rfl)))) pss_nil)
    (C8.pss_cut (ps_if (PW.pt (pw_and (pt_cmpR op_lt (pv 2) (pe_callB (call_len_seqK (K := K) rfl) (by rfl) (z_len T) boot_len (pa_cons (pe_ix (ix_listK (K := K) rfl) (pv 0) pe_int (fun _ _ => rfl)) pa_nil)) (nomark _)) (pw_and1 (pt_cmpR op_ge (pe_callB call_abs (by rfl) (z_abs T) boot_abs (pa_cons (pv 3) pa_nil)) (pe_op op_pow pe_int pe_int) (nomark _))))) (pss_cons (ps_set (i := 6) sc_Ldraw.nd rfl (Or.inl rfl) (pe_op op_add (pe_op op_mul pe_int (pe_callB call_abs (by rfl) (z_abs T) boot_abs (pa_cons (pv 3) pa_nil))) (pe_callTy call_int1 (by rfl) (z_int T) boot_int (pa_cons (pe_cmpR op_lt (pv 3) pe_int (nomark _)) pa_nil))))
    (pss_cons (ps_asg (pe_op op_fdivN (pe_callTy call_int1 (by rfl) (z_int T) boot_int (pa_cons (pv 6) pa_nil)) (pv 1)) (pg_sub (pv 0) pe_int set_list))
    (pss_one (ps_ret (pe_op op_modN (pe_callTy call_int1 (by rfl) (z_int T) boot_int (pa_cons (pv 6) pa_nil)) (pv 1)))))) pss_nil)
    (pss_cons (ps_set (i := 4) sc_Ldraw.nd rfl (Or.inl rfl) (pe_op op_mod (pe_op op_pow (pe_callTy call_int1 (by rfl) (z_int T) boot_int (pa_cons (pe_op op_add (pe_op op_add (pe_op op_mod (pe_callTy call_int1 (by rfl) (z_int T) boot_int (pa_cons (pv 3) pa_nil)) pe_int) (pe_op op_mul pe_int (pv 2))) pe_int) pa_nil)) pe_int) pe_int))
    (pss_cons (ps_set (i := 4) sc_Ldraw.nd rfl (Or.inl rfl) (pe_op op_mod (pe_op op_pow (pe_callTy call_int1 (by rfl) (z_int T) boot_int (pa_cons (pe_op op_add (pe_op op_add (pe_op op_mul (pv 4) (pe_op op_add (pe_op op_mul pe_int (pv 2)) pe_int)) (pe_op op_mul (pe_op op_mul pe_int (pv 2)) (pv 2))) pe_int) pa_nil)) pe_int) pe_int))
    (pss_one (ps_ret (pe_op op_modN (pe_callTy call_int1 (by rfl) (z_int T) boot_int (pa_cons (pe_op op_fdiv (pv 4) pe_int) pa_nil)) (pv 1)))))))))))), ?_⟩
  have fm : ∀ x : Int, 0 ≤ Int.fmod x m ∧ Int.fmod x m < m := fun x => ⟨Int.fmod_nonneg_of_pos x hm0, Int.fmod_lt_of_pos x hm0⟩
  have e0 : ∀ {j k : Int}, atI (pen3 c j k) 0 = some (.ref c) := fun {j k} => atI_nat (j := 0) rfl
  have e1 : ∀ {j k : Int}, atI (pen3 c j k) 1 = some (.int j) := fun {j k} => atI_nat (j := 1) rfl
  have e2 : ∀ {j k : Int}, atI (pen3 c j k) 2 = some (.int k) := fun {j k} => atI_nat (j := 2) rfl
  refine ⟨_, rfl, p, _, 2, _, rfl, rfl, SqL.of hp, e2, _, _, rfl, rfl, _, rfl, ?_⟩
  refine ite2 (fun c1 => ?_) (fun c1 => ?_)
  · refine ⟨_, rfl, p, _, 2, _, rfl, rfl, SqL.of hp, e2, .inl ⟨_, rfl, _, rfl, _, _, rfl, rfl, by omega, ?_⟩⟩
    refine ⟨_, rfl, p, _, 2, _, rfl, rfl, SqL.of hp, e2, .inl ⟨_, rfl, _, rfl, _, _, rfl, rfl, ⟨by omega, by omega⟩, ?_⟩⟩
    refine ⟨_, rfl, p, _, 2, 2, rfl, rfl, hp, rfl, _, rfl, ?_⟩
    obtain ⟨s3, P3⟩ := Pq.put (n := n + 1) (l := Int.fdiv l m) hP.gh hP.out hP.there hc hl hi0 (by omega) (by rw [Int.fdiv_eq_ediv_of_nonneg _ (by omega)]; exact Int.ediv_nonneg hl0 (by omega))
    exact q _ _ _ s3 P3 (fm _).1 (fm _).2
  · refine ⟨_, rfl, p, _, 1, _, rfl, rfl, SqL.of hp, e1, ?_⟩
    refine ⟨_, rfl, _, _, rfl, rfl, _, rfl, p, _, 1, 1, rfl, rfl, hp, rfl, ?_⟩
    obtain ⟨sA, PA⟩ := Pq.put (n := n + 1) (i := i + 1) (l := l) hP.gh hP.out hP.there hc hl (by omega) (by omega) hl0
    have hpA : upd H p (.lst (pen3 c (i + 1) l)) p = some (.lst (pen3 c (i + 1) l)) := upd_same
    generalize eS : (pen3 c i l).set 1 (V.int (i + 1)) = xs1
    obtain rfl : xs1 = pen3 c (i + 1) l := eS.symm.trans rfl
    clear eS
    generalize upd H p (.lst (pen3 c (i + 1) l)) = HA at *
    refine ⟨_, rfl, _, _, rfl, rfl, .inl ⟨by decide, by decide⟩, _, _, rfl, rfl, ?_⟩
    refine ⟨fun σ' H' => ∃ c0 : Int, σ' = [some (.ref p), some (.int m), some (.int i), some (.int c0), none, none, none] ∧ Step (some p) G H G H' ∧ Pq G H' p (n + 1) ∧ H' p = some (.lst (pen3 c (i + 1) l)), ?_, ?_⟩
    · refine ⟨_, rfl, p, _, 0, _, rfl, rfl, SqL.of hpA, e0, Nat.zero_le _, fun l0 hl0 => ?_⟩
      obtain ⟨s0, P0⟩ := PA.loc (o := .lst []) hl0
      have hp0 : upd HA l0 (.lst []) p = some (.lst (pen3 c (i + 1) l)) := by rw [upd_ne (ne_of_none hpA hl0)]; exact hpA
      have hn0 : upd HA l0 (.lst []) l0 = some (.lst []) := upd_same
      generalize upd HA l0 (.lst []) = H0 at *
      refine ⟨_, _, .lst (SqL.of (P0.gh _ _ hc)) (dp_ints ns), .lst (SqL.of hn0) .nil, shaped_ints ns, shaped_ints [], _, rfl, ?_⟩
      rw [eqv_nil]
      refine ite2 (fun c2 => ?_) (fun c2 => ⟨_, rfl, sA.trans s0, P0, hp0⟩)
      have hne : 0 < ns.length := by
        cases ns with
        | nil => simp at c2
        | cons n t => simp
      have hlen : (ns.map V.int).length = ns.length := List.length_map _
      have c2' : (0 : Int) < ((ns.map V.int).length : Nat) := by omega
      have hi1 := Int.fmod_nonneg_of_pos i c2'
      have hi2 := Int.fmod_lt_of_pos i c2'
      obtain ⟨v, hv, _⟩ := atI_int (ns := ns) hi1 (by omega)
      refine ⟨_, rfl, p, _, 0, _, rfl, rfl, SqL.of hp0, e0, _, rfl, .inl ⟨_, rfl, _, rfl, p, _, 0, _, rfl, rfl, SqL.of hp0, e0, c, _, rfl, .inl (SqL.of (P0.gh _ _ hc)), _, _, rfl, rfl, by omega, c, _, _, _, rfl, rfl, SqL.of (P0.gh _ _ hc), hv, ?_⟩⟩
      exact ⟨v, rfl, sA.trans s0, P0, hp0⟩
    rintro σ' H' ⟨c0, rfl, s1, P1, hp1⟩
    have hc1 := P1.gh _ _ hc
    refine ⟨fun σ' H'' => σ' = [some (.ref p), some (.int m), some (.int i), some (.int c0), none, none, none] ∧ H'' = H', ?_, ?_⟩
    · refine ⟨_, rfl, _, rfl, p, _, 0, _, rfl, rfl, SqL.of hp1, e0, c, _, rfl, .inl (SqL.of hc1), _, _, rfl, rfl, _, rfl, ?_⟩
      refine ite2 (fun _ => ?_) (fun _ => iteF ⟨rfl, rfl⟩)
      refine ⟨_, rfl, _, rfl, _, _, rfl, rfl, ⟨by decide, by decide, by decide⟩, _, _, rfl, rfl, _, rfl, ?_⟩
      refine ite2 (fun _ => ?_) (fun _ => ⟨rfl, rfl⟩)
      have hab : (0 : Int) ≤ (if c0 < 0 then -c0 else c0) := by split <;> omega
      refine ⟨_, rfl, _, rfl, _, _, rfl, rfl, .inl ⟨by decide, by decide⟩, _, rfl, _, _, rfl, rfl, .inr ⟨_, rfl, _, _, rfl, rfl, ?_⟩⟩
      have hg : (0 : Int) ≤ 2 * (if c0 < 0 then -c0 else c0) + (if decide (c0 < 0) = true then 1 else 0) := by split <;> omega
      dsimp only
      generalize (2 * (if c0 < 0 then -c0 else c0) + (if decide (c0 < 0) = true then 1 else 0) : Int) = g at hg
      refine ⟨_, rfl, .inl ⟨_, rfl, _, rfl, _, _, rfl, rfl, ⟨by omega, by omega⟩, _, rfl, p, _, 2, 2, rfl, rfl, hp1, rfl, ?_⟩⟩
      refine ⟨_, rfl, .inl ⟨_, rfl, _, rfl, _, _, rfl, rfl, by omega, ?_⟩⟩
      obtain ⟨s3, P3⟩ := Pq.put (n := n + 1) (i := i + 1) (l := Int.fdiv g m) P1.gh P1.out P1.there hc hl (by omega) (by omega) (by rw [Int.fdiv_eq_ediv_of_nonneg _ (by omega)]; exact Int.ediv_nonneg hg (by omega))
      exact q _ _ _ (s1.trans s3) P3 (fm _).1 (fm _).2
    · rintro σ' H'' ⟨rfl, rfl⟩
      have r1 := Int.emod_nonneg c0 (show (2147483543 : Int) ≠ 0 by decide)
      have r2 := Int.emod_lt_of_pos c0 (show (0 : Int) < 2147483543 by decide)
      refine ⟨_, rfl, .inl ⟨_, rfl, _, _, rfl, rfl, (by show (0 : Int) < 2147483543; decide), _, rfl, _, _, rfl, rfl, .inl ⟨by decide, by decide⟩, _, _, rfl, rfl, _, _, rfl, rfl, .inl ⟨_, rfl, _, _, rfl, rfl, ⟨by decide, by decide, by omega⟩, _, _, rfl, rfl, (by show (0 : Int) < 2147483563; decide), ?_⟩⟩⟩
      dsimp only
      generalize el : (c0 % 2147483543 + 33403 * i + 71) ^ (5 : Int).toNat % 2147483563 = lw
      have l1 : 0 ≤ lw := by rw [← el]; exact Int.emod_nonneg _ (by decide)
      have l2 : lw < 2147483563 := by rw [← el]; exact Int.emod_lt_of_pos _ (by decide)
      clear el
      obtain ⟨m1, m2⟩ := mul_bd l1 (show lw ≤ 2147483563 by omega) (show 0 ≤ 4 * i + 21 by omega) (show 4 * i + 21 ≤ 4000021 by omega)
      obtain ⟨m3, m4⟩ := mul_bd (show (0 : Int) ≤ 10007 * i by omega) (show 10007 * i ≤ 10007000000 by omega) hi0 (show i ≤ 1000000 by omega)
      refine ⟨_, rfl, _, rfl, _, _, rfl, rfl, .inl ⟨by decide, by decide⟩, _, _, rfl, rfl, _, _, rfl, rfl, .inr ⟨by omega, by omega⟩, _, rfl, _, _, rfl, rfl, .inl ⟨by decide, by decide⟩, _, rfl, _, _, rfl, rfl, .inr ⟨by omega, by omega⟩, _, _, rfl, rfl, _, _, rfl, rfl, .inl ⟨_, rfl, _, _, rfl, rfl, ⟨by decide, by decide, by omega⟩, _, _, rfl, rfl, (by show (0 : Int) < 2147483587; decide), ?_⟩⟩
      dsimp only
      generalize eh : (lw * (4 * i + 21) + 10007 * i * i + 31) ^ (3 : Int).toNat % 2147483587 = hg
      clear eh
      refine ⟨_, rfl, _, _, rfl, rfl, ⟨by decide, by decide⟩, .inl ⟨_, rfl, _, rfl, _, _, rfl, rfl, by omega, ?_⟩⟩
      exact q _ _ _ s1 P1 (fm _).1 (fm _).2
end Pf
namespace Bs
open PySem PySem.Spec PyProof.Rows L2 SX
variable {P : Program} {w : World} {K : PySem.W.Frag} {mg : Str → Option Value} {base : Heap}
theorem Pq.frz {G H : Hp} {p q : Addr} {n : Nat} {o : HO} (h : Pq G H p n) (hq : H q = some o) (gq : G q = none) (ne : q ≠ p) : Pq (upd G q o) H p n := by
  obtain ⟨c, ms, i, l, h1, h2, h3, h4, h5, h6⟩ := h.pen
  refine ⟨fun b u e => ?_, by rw [upd_ne ne.symm]; exact h.out, c, ms, i, l, h1, by rw [upd_ne (fun z => by rw [z, gq] at h2; cases h2)]; exact h2, h3, h4, h5, h6⟩
  by_cases cb : b = q
  · subst cb; rw [upd_same] at e; rw [hq]; exact e
  · rw [upd_ne cb] at e; exact h.gh b u e
theorem atI_mem {α : Type} {xs : List α} {d : Int} (h0 : 0 ≤ d) (h1 : d < (xs.length : Nat)) : ∃ v ∈ xs, atI xs d = some v := by
  obtain ⟨n, rfl⟩ := Int.eq_ofNat_of_zero_le h0
  have hn : n < xs.length := by omega
  exact ⟨xs[n], List.getElem_mem hn, atI_nat (List.getElem?_eq_getElem hn)⟩
def spPick : Sp := fun vs H Q _ => ∃ (G : Hp) (p l : Addr) (n : Nat) (xs : List V), vs = [.ref p, .ref l] ∧ Pq G H p n ∧ n ≤ 900000 ∧ H l = some (.lst xs) ∧ l ≠ p ∧ 0 < xs.length ∧ xs.length ≤ 1000 ∧
  ∀ (v : V) (G' H' : Hp), v ∈ xs → Step (some p) G H G' H' → Pq G' H' p (n + 1) → Q v H'
def spSome : Sp := fun vs H Q _ => ∃ (G : Hp) (p l : Addr) (n : Nat) (xs : List (List Nat)) (lo hi : Int), vs = [.ref p, .ref l, .int lo, .int hi] ∧ Pq G H p n ∧ n ≤ 900000 ∧ H l = some (.lst (sV xs)) ∧ xs.Nodup ∧ xs.length ≤ 8 ∧ 0 ≤ lo ∧ lo ≤ hi ∧ hi ≤ 100 ∧ lo ≤ (xs.length : Nat) ∧
  ∀ (l' : Addr) (ys : List (List Nat)) (G' H' : Hp), Step (some p) G H G' H' → Pq G' H' p (n + 10) → G' l' = some (.lst (sV ys)) → Sub ys xs → lo ≤ (ys.length : Nat) → (ys.length : Int) ≤ hi → Q (.ref l') H'
theorem erase_perm {α : Type} : ∀ {xs : List α} {k : Nat} {y : α}, xs[k]? = some y → (y :: xs.eraseIdx k).Perm xs
  | [], _, _, h => by simp at h
  | x :: r, 0, y, h => by
    cases (Option.some.inj (show some x = some y from h))
    exact List.Perm.refl _
  | x :: r, k + 1, y, h => (List.Perm.swap x y _).trans ((erase_perm (xs := r) (k := k) h).cons x)
theorem er_map {α β : Type} (f : α → β) : ∀ (xs : List α) (k : Nat), (xs.map f).eraseIdx k = (xs.eraseIdx k).map f
  | [], _ => rfl
  | _ :: _, 0 => rfl
  | x :: r, k + 1 => by
    show f x :: (r.map f).eraseIdx k = f x :: (r.eraseIdx k).map f
    rw [er_map f r k]
theorem sV_erase (xs : List (List Nat)) (k : Nat) : (sV xs).eraseIdx k = sV (xs.eraseIdx k) := by
  show ((xs.map S).map V.str).eraseIdx k = ((xs.eraseIdx k).map S).map V.str
  rw [er_map, er_map]
theorem seqIx {d : Int} {n : Nat} (h0 : 0 ≤ d) (h1 : d < (n : Nat)) : seqIndex? d n = some d.toNat := by
  obtain ⟨k, rfl⟩ := Int.eq_ofNat_of_zero_le h0
  unfold seqIndex?
  simp
  omega
end Bs
namespace Pf
open PySem PySem.Spec PyProof.Rows L2 Bs SX
variable {P : Program} {w : World} {K : PySem.W.Frag} {mg : Str → Option Value} {base : Heap}
abbrev N_Lpick : List Str := ["_law_pen_here", "_law_some_here"]
theorem sc_Lpick : FnScope N_Lpick ["_law_pen_here", "_law_some_here"] (defScope s_Lpick) := ⟨rfl, rfl, rfl, by decide +kernel, rfl, by decide +kernel, by decide +kernel⟩
theorem c_Lpick (T : Tx K mg) : C8.Cal P w K mg base 2 "_law_pick" spPick [] := by
  obtain ⟨fd, F⟩ := f_Lpick T
  have c_Ldraw := c_Ldraw (P := P) (w := w) (base := base) T
  refine mkCal F (g_law_pick T) (F.bindsN fun _ _ _ _ _ _ us hl => match us, hl with | [_, _], _ => rfl) .nil sc_Lpick (fun vs H Q E h => ?_) (fun cdv A outer s H vs Q E hr h => ?_)
  · obtain ⟨G, p, l, n, xs, rfl, _⟩ := h
    rfl
  obtain ⟨G, p, l, n, xs, rfl, hP, hn, hl, ne, l0, l1, q⟩ := h
  refine ⟨_, (pss_one (ps_ret (pe_ix (ix_listK (K := K) rfl) (pv 1) (C8.pe_c c_Ldraw hr (by first | decide | omega) rfl (pa_cons (pv 0) (pa_cons (pe_callB (call_len_seqK (K := K) rfl) (by rfl) (z_len T) boot_len (pa_cons (pv 1) pa_nil)) pa_nil))) (fun _ _ => rfl)))), ?_⟩
  refine ⟨_, rfl, _, rfl, _, rfl, l, xs, rfl, .inl (SqL.of hl), G, p, n, _, rfl, hP, by omega, by omega, by omega, fun d G1 H1 s1 P1 a1 b1 => ?_⟩
  obtain ⟨v, hv, e⟩ := atI_mem a1 b1
  exact ⟨l, xs, d, v, rfl, rfl, SqL.of (s1.kpc _ _ hl ne), e, q v G1 H1 hv s1 P1⟩
abbrev N_Lsome : List Str := ["_law_pen_here", "_law_pool", "_law_least", "_law_most", "_law_left", "_law_many", "_law_turn"]
theorem sc_Lsome : FnScope N_Lsome ["_law_pen_here", "_law_pool", "_law_least", "_law_most"] (defScope s_Lsome) := ⟨rfl, rfl, rfl, by decide +kernel, rfl, by decide +kernel, by decide +kernel⟩
theorem c_Lsome (T : Tx K mg) : C8.Cal P w K mg base 2 "_law_some" spSome [] := by
  obtain ⟨fd, F⟩ := f_Lsome T
  have c_Ldraw := c_Ldraw (P := P) (w := w) (base := base) T
  refine mkCal F (g_law_some T) (F.bindsN fun _ _ _ _ _ _ us hl => match us, hl with | [_, _, _, _], _ => rfl) .nil sc_Lsome (fun vs H Q E h => ?_) (fun cdv A outer s H vs Q E hr h => ?_)
  · obtain ⟨G, p, l, n, xs, lo, hi, rfl, _⟩ := h
    rfl
  obtain ⟨G, p, l, n, xs, lo, hi, rfl, hP, hn, hl, nd, l8, lo0, lohi, h100, lol, q⟩ := h
  have sl : sizeLine = 16777216 := rfl
  refine ⟨_, (pss_cons (ps_set (i := 4) sc_Lsome.nd rfl (Or.inr rfl) (pe_callTy call_list_of (by rfl) (z_list T) boot_list (pa_cons (pv 1) pa_nil)))
    (pss_cons (ps_set (i := 5) sc_Lsome.nd rfl (Or.inl rfl) (pe_op op_add (pv 2) (C8.pe_c c_Ldraw hr (by first | decide | omega) rfl (pa_cons (pv 0) (pa_cons (pe_op op_add (pe_op op_sub (pe_callB (call_min2 rfl) (by rfl) (z_min T) boot_min (pa_cons (pv 3) (pa_cons (pe_callB (call_len_seqK (K := K) rfl) (by rfl) (z_len T) boot_len (pa_cons (pv 1) pa_nil)) pa_nil))) (pv 2)) pe_int) pa_nil)))))
    (pss_one (ps_ret (pe_lc (own := [("_law_turn", 6)]) rfl sc_Lsome.nd (pi_range1 (by rfl) (z_range T) (pa_cons (pv 5) pa_nil)) (blkOk_by (N := N_Lsome) (sc := defScope s_Lsome) (by decide +kernel)) (fun _ _ _ _ _ => (pg_name (i := 6) sc_Lsome.nd rfl (Or.inl rfl))) (fun _ _ _ _ _ => pts_nil) (fun _ _ _ _ _ => (pe_bmK (K := K) rfl PySem.F.plainAttrs_list PySem.F.slot_list_pop PySem.F.type_list_pop mt_popAt (pv 4) (pa_cons (C8.pe_c c_Ldraw hr (by first | decide | omega) rfl (pa_cons (pv 0) (pa_cons (pe_callB (call_len_seqK (K := K) rfl) (by rfl) (z_len T) boot_len (pa_cons (pv 4) pa_nil)) pa_nil))) pa_nil)))))))), ?_⟩
  refine ⟨_, rfl, l, _, rfl, .inl (SqL.of hl), fun L hL => ?_⟩
  have nLp : L ≠ p := fun z => hP.there (by rw [← z]; exact hL)
  have nlL : l ≠ L := ne_of_none hl hL
  obtain ⟨s0, P0⟩ := hP.loc (o := .lst (sV xs)) hL
  have hl0 : upd H L (.lst (sV xs)) l = some (.lst (sV xs)) := by rw [upd_ne nlL]; exact hl
  have hL0 : upd H L (.lst (sV xs)) L = some (.lst (sV xs)) := upd_same
  have gL := hP.gh.free hL
  generalize upd H L (.lst (sV xs)) = H0 at *
  have hlen := sV_len xs
  have hmin : ∀ {a b : Int}, (if a < b then a else b) = min a b := fun {a b} => by split <;> omega
  refine ⟨_, rfl, _, rfl, _, rfl, _, rfl, l, _, rfl, .inl (SqL.of hl0), _, _, rfl, _, rfl, _, _, rfl, rfl, _, _, rfl, rfl, G, p, n, _, rfl, P0, by omega, ?_, ?_, fun d G1 H1 s1 P1 a1 b1 => ?_⟩
  · rw [hlen]; split <;> omega
  · rw [hlen]; split <;> omega
  rw [hlen] at b1
  have hb : lo + d ≤ hi ∧ lo + d ≤ (xs.length : Nat) := by
    split at b1 <;> omega
  clear b1
  have hL1 := s1.kpc _ _ hL0 nLp
  have g1L := s1.out gL (by rw [hL0]; exact fun z => by cases z)
  have s01 := s0.trans s1
  refine ⟨_, _, rfl, rfl, _, rfl, lo + d, rfl, by omega, by omega, fun D hD => ?_⟩
  have nDp : D ≠ p := fun z => P1.there (by rw [← z]; exact hD)
  have nLD : L ≠ D := ne_of_none hL1 hD
  have gD := P1.gh.free hD
  have hDH := s01.free hD
  have hLH := hL
  refine lc_range (lo := 0) (n := (lo + d).toNat) (fun i H' => ∃ (G' : Hp) (ys zs : List (List Nat)), Step (some p) G H G' H' ∧ Pq G' H' p (n + 1 + i) ∧ G' L = none ∧ G' D = none ∧ H' L = some (.lst (sV zs)) ∧ H' D = some (.lst (sV ys)) ∧ (ys ++ zs).Perm xs ∧ ys.length = i)
    ⟨G1, [], xs, s01.loc hDH gD, P1.local_ gD nDp, g1L, gD, by rw [upd_ne nLD]; exact hL1, upd_same, List.Perm.refl _, rfl⟩ ?_ ?_
  · rintro i H' hi' ⟨G', ys, zs, st, ps, gl, gd, hLz, hDy, pm, rfl⟩
    have pl := pm.length_eq
    rw [List.length_append] at pl
    have zl := sV_len zs
    refine ⟨rfl, ?_⟩
    unfold tYes
    refine iteT ⟨_, rfl, .inl ⟨rfl, _, SqL.of hLz⟩, _, rfl, _, rfl, L, _, rfl, .inl (SqL.of hLz), G', p, _, _, rfl, ps, by omega, by omega, by omega, fun d2 Ga Ha sa Pa a2 b2 => ?_⟩
    rw [zl] at b2
    have hk : d2.toNat < zs.length := by omega
    have hLa := sa.kpc _ _ hLz nLp
    have hDa := sa.kpc _ _ hDy nDp
    have gla := sa.out gl (by rw [hLz]; exact fun z => by cases z)
    have gda := sa.out gd (by rw [hDy]; exact fun z => by cases z)
    have ey : zs[d2.toNat]? = some zs[d2.toNat] := List.getElem?_eq_getElem hk
    refine ⟨L, _, d2, d2.toNat, .str (S zs[d2.toNat]), rfl, rfl, hLa, by omega, by omega, by rw [zl]; exact seqIx a2 b2, by rw [List.getElem?_map, List.getElem?_map, ey]; rfl, ?_⟩
    rw [sV_erase]
    refine ⟨sV ys, by rw [upd_ne nLD.symm]; exact hDa, by rw [sV_len]; omega, Ga, ys ++ [zs[d2.toNat]], zs.eraseIdx d2.toNat, ((st.trans sa).loc hLH gla).loc hDH gda, ((Pa.mono (by omega)).local_ gla nLp).local_ gda nDp, gla, gda, by rw [upd_ne nLD, upd_same], ?_, ?_, by rw [List.length_append]; rfl⟩
    · rw [upd_same, ← sV_app]; rfl
    · refine List.Perm.trans ?_ pm
      rw [List.append_assoc]
      exact (erase_perm ey).append_left ys
  rintro H' ⟨G', ys, zs, st, ps, gl, gd, hLz, hDy, pm, hyl⟩
  have sF := st.freeze (q := D) hDH hDy gd
  have mem : ∀ y ∈ ys, y ∈ xs := fun y hy => pm.mem_iff.mp (List.mem_append_left _ hy)
  have ndy : ys.Nodup := (List.nodup_append.mp (pm.nodup_iff.mpr nd)).1
  have PF := (ps.frz hDy gd nDp).mono (show n + 1 + (lo + d).toNat ≤ n + 10 by omega)
  exact q D ys _ H' sF PF upd_same ⟨mem, ndy⟩ (by omega) (by omega)
end Pf
namespace Bs
open PySem PySem.Spec PyProof.Rows L2 SX
def NP : List Str := ["a", "b", "c0", "d_", "keys", "tables", "inn", "in_", "zzzzzzzz", "x9", "q_1", "sums", "merged", "e", "zero0"]
def NPl : List (List Nat) := NP.map fun x => x.cps.toList
theorem NP_S : NPl.map S = NP := by decide +kernel
theorem NP_nm : ∀ w ∈ NPl, Nm w := by
  have h : NPl.all nmB = true := by decide +kernel
  exact fun w hw => nm_of (List.all_eq_true.mp h w hw)
theorem NP_nd : NPl.Nodup := by decide +kernel
theorem NP_len : NPl.length = 15 := by decide +kernel
theorem OkC.of {cs : List (List Nat)} (h1 : ∀ c ∈ cs, Nm c) (h2 : cs.Nodup) (h3 : 1 ≤ cs.length) (h4 : cs.length ≤ 8) : OkC cs := ⟨h1, h2, h3, h4⟩
abbrev CHl : List Nat := List.range' 97 26 ++ (List.range' 48 10 ++ [95])
theorem CHl_nd : CHl.Nodup := by decide +kernel
theorem CHl_len : CHl.length = 37 := by decide +kernel
theorem CHl_sg : ∀ c ∈ CHl, sgB c = true := by decide +kernel
theorem inj_nodup {α β : Type} {f : α → β} (hf : ∀ a b, f a = f b → a = b) : ∀ {xs : List α}, xs.Nodup → (xs.map f).Nodup
  | [], _ => List.nodup_nil
  | x :: r, h => by
    obtain ⟨h1, h2⟩ := List.nodup_cons.mp h
    refine List.nodup_cons.mpr ⟨fun z => ?_, inj_nodup hf h2⟩
    obtain ⟨y, hy, e⟩ := List.mem_map.mp z
    exact h1 (hf _ _ e ▸ hy)
abbrev qn (tl : List Nat) (c : Nat) : List Nat := 113 :: c :: tl
theorem WD_q : ∀ w ∈ WD, w.head? ≠ some 113 := by decide +kernel
theorem qn_nm {tl : List Nat} {c : Nat} (h : sgB c = true) (ht : ∀ x ∈ tl, sgB x = true) (hl : tl.length ≤ 5) : Nm (qn tl c) := by
  refine ⟨by simp only [List.length_cons]; omega, ⟨113, _, rfl, by decide, by decide⟩, fun x hx => ?_, fun z => WD_q _ z rfl⟩
  rcases List.mem_cons.mp hx with rfl | hx
  · decide
  · rcases List.mem_cons.mp hx with rfl | hx
    · exact h
    · exact ht x hx
theorem joinL_nil' : ∀ ys : List (List Nat), TL.joinL [] ys = ys.flatten
  | [] => rfl
  | [p] => by simp [TL.joinL]
  | p :: q :: r => by
    show p ++ ([] ++ TL.joinL [] (q :: r)) = _
    rw [joinL_nil' (q :: r)]
    simp
theorem flat1 : ∀ {ys : List (List Nat)}, (∀ y ∈ ys, ∃ c, y = [c] ∧ sgB c = true) → ys.flatten.length = ys.length ∧ ∀ x ∈ ys.flatten, sgB x = true
  | [], _ => ⟨rfl, fun x h => by cases h⟩
  | y :: r, h => by
    obtain ⟨c, rfl, hc⟩ := h y List.mem_cons_self
    obtain ⟨h1, h2⟩ := flat1 fun z hz => h z (List.mem_cons_of_mem _ hz)
    refine ⟨by simp [h1], fun x hx => ?_⟩
    rw [List.flatten_cons] at hx
    rcases List.mem_append.mp hx with hx | hx
    · rw [List.mem_singleton.mp hx]; exact hc
    · exact h2 x hx
theorem sum1 : ∀ {ys : List (List Nat)}, (∀ y ∈ ys, ∃ c, y = [c] ∧ sgB c = true) → ((ys.map S).map (fun x => x.length)).sum = ys.length
  | [], _ => rfl
  | y :: r, h => by
    obtain ⟨c, rfl, hc⟩ := h y List.mem_cons_self
    have h1 := sum1 fun z hz => h z (List.mem_cons_of_mem _ hz)
    simp only [List.map_cons, List.sum_cons, h1, S_len, List.length_cons, List.length_nil]
    omega
theorem em0 : ("" : Str) = S [] := rfl
theorem q_w : ("q" : Str) = S [113] := by decide +kernel
abbrev frW : List Nat := [102, 114, 101, 115, 104]
theorem NP_fr : frW ∉ NPl := by decide +kernel
def spNamesN : Sp := fun vs H Q _ => ∃ (G : Hp) (p : Addr) (n : Nat) (m : Int), vs = [.ref p, .int m] ∧ Pq G H p n ∧ n ≤ 900000 ∧ 1 ≤ m ∧ m ≤ 8 ∧
  ∀ (l : Addr) (cs : List (List Nat)) (G' H' : Hp), Step (some p) G H G' H' → Pq G' H' p (n + 20) → G' l = some (.lst (sV cs)) → OkC cs → frW ∉ cs → cs.length = m.toNat → Q (.ref l) H'
end Bs
namespace Pf
open PySem PySem.Spec PyProof.Rows L2 Bs SX
variable {P : Program} {w : World} {K : PySem.W.Frag} {mg : Str → Option Value} {base : Heap}
abbrev N_Lnames : List Str := ["_law_pen_here", "_law_many", "_law_pool", "_law_found", "_law_signs", "_law_tail", "_law_turn", "_law_k"]
theorem sc_Lnames : FnScope N_Lnames ["_law_pen_here", "_law_many"] (defScope s_Lnames) := ⟨rfl, rfl, rfl, by decide +kernel, rfl, by decide +kernel, by decide +kernel⟩
theorem c_Lnames (T : Tx K mg) : C8.Cal P w K mg base 2 "_law_names" spNamesN [] := by
  obtain ⟨fd, F⟩ := f_Lnames T
  have c_Ldraw := c_Ldraw (P := P) (w := w) (base := base) T
  refine mkCal F (g_law_names T) (F.bindsN fun _ _ _ _ _ _ us hl => match us, hl with | [_, _], _ => rfl) .nil sc_Lnames (fun vs H Q E h => ?_) (fun cdv A outer s H vs Q E hr h => ?_)
  · obtain ⟨G, p, n, m, rfl, _⟩ := h
    rfl
  obtain ⟨G, p, n, m, rfl, hP, hn, m1, m8, q⟩ := h
  have sl : sizeLine = 16777216 := rfl
  refine ⟨_, (pss_cons (ps_set (i := 2) sc_Lnames.nd rfl (Or.inr rfl) (pe_lst (pa_cons pe_str (pa_cons pe_str (pa_cons pe_str (pa_cons pe_str (pa_cons pe_str (pa_cons pe_str (pa_cons pe_str (pa_cons pe_str (pa_cons pe_str (pa_cons pe_str (pa_cons pe_str pa_nil)))))))))))))
    (pss_cons (ps_set (i := 2) sc_Lnames.nd rfl (Or.inr rfl) (pe_op op_cat (pv 2) (pe_lst (pa_cons pe_str (pa_cons pe_str (pa_cons pe_str (pa_cons pe_str pa_nil)))))))
    (pss_cons (ps_setLc (i := 3) (own := [("_law_turn", 6)]) rfl sc_Lnames.nd rfl rfl (sw_true rfl rfl rfl (by decide +kernel)) (pi_range1 (by rfl) (z_range T) (pa_cons (pv 1) pa_nil)) (blkOk_by (N := N_Lnames) (sc := defScope s_Lnames) (by decide +kernel)) (fun _ _ _ _ _ => (pg_name (i := 6) sc_Lnames.nd rfl (Or.inl rfl))) (fun _ _ _ _ _ => pts_nil) (fun _ _ _ _ _ => (pe_bmK (K := K) rfl PySem.F.plainAttrs_list PySem.F.slot_list_pop PySem.F.type_list_pop mt_popAt (pv 2) (pa_cons (C8.pe_c c_Ldraw hr (by first | decide | omega) rfl (pa_cons (pv 0) (pa_cons (pe_callB (call_len_seqK (K := K) rfl) (by rfl) (z_len T) boot_len (pa_cons (pv 2) pa_nil)) pa_nil))) pa_nil))))
    (C8.pss_cut (ps_if (pt_cmpR op_eq (C8.pe_c c_Ldraw hr (by first | decide | omega) rfl (pa_cons (pv 0) (pa_cons pe_int pa_nil))) pe_int (nomark _)) (pss_cons (ps_set (i := 4) sc_Lnames.nd rfl (Or.inr rfl) pe_str)
    (pss_cons (ps_set (i := 5) sc_Lnames.nd rfl (Or.inr rfl) (pe_join pe_str (pe_lc (own := [("_law_turn", 6)]) rfl sc_Lnames.nd (pi_range1 (by rfl) (z_range T) (pa_cons (C8.pe_c c_Ldraw hr (by first | decide | omega) rfl (pa_cons (pv 0) (pa_cons pe_int pa_nil))) pa_nil)) (blkOk_by (N := N_Lnames) (sc := defScope s_Lnames) (by decide +kernel)) (fun _ _ _ _ _ => (pg_name (i := 6) sc_Lnames.nd rfl (Or.inl rfl))) (fun _ _ _ _ _ => pts_nil) (fun _ _ _ _ _ => (pe_ix ix_str (pv 4) (C8.pe_c c_Ldraw hr (by first | decide | omega) rfl (pa_cons (pv 0) (pa_cons pe_int pa_nil))) (fun _ _ => rfl))))))
    (pss_one (ps_setLc (i := 3) (own := [("_law_k", 7)]) rfl sc_Lnames.nd rfl rfl (sw_true rfl rfl rfl (by decide +kernel)) (pi_range1 (by rfl) (z_range T) (pa_cons (pv 1) pa_nil)) (blkOk_by (N := N_Lnames) (sc := defScope s_Lnames) (by decide +kernel)) (fun _ _ _ _ _ => (pg_name (i := 7) sc_Lnames.nd rfl (Or.inl rfl))) (fun _ _ _ _ _ => pts_nil) (fun _ _ _ _ _ => (pe_op op_add_str (pe_op op_add_str pe_str (pe_ix ix_str (pv 4) (pv 7) (fun _ _ => rfl))) (pv 5))))))) pss_nil)
    (pss_one (ps_ret (pv 3))))))), ?_⟩
  refine ⟨by show 11 ≤ sizeLine; decide, fun A0 hA0 => ?_⟩
  obtain ⟨s0, P0⟩ := hP.loc (o := .lst [.str "a", .str "b", .str "c0", .str "d_", .str "keys", .str "tables", .str "inn", .str "in_", .str "zzzzzzzz", .str "x9", .str "q_1"]) hA0
  refine ⟨_, rfl, by show 4 ≤ sizeLine; decide, fun A1 hA1 => ?_⟩
  obtain ⟨s1, P1⟩ := P0.loc (o := .lst [.str "sums", .str "merged", .str "e", .str "zero0"]) hA1
  refine ⟨A0, A1, _, _, rfl, rfl, by rw [upd_ne (ne_of_none upd_same hA1)]; exact upd_same, upd_same, by show 11 + 4 ≤ sizeLine; decide, fun L hL => ?_⟩
  have eN : [V.str "a", .str "b", .str "c0", .str "d_", .str "keys", .str "tables", .str "inn", .str "in_", .str "zzzzzzzz", .str "x9", .str "q_1"] ++ [V.str "sums", .str "merged", .str "e", .str "zero0"] = sV NPl := by
    show _ = (NPl.map S).map V.str
    rw [NP_S]
    rfl
  rw [eN]
  have nLp : L ≠ p := fun z => P1.there (by rw [← z]; exact hL)
  obtain ⟨s2, P2⟩ := P1.loc (o := .lst (sV NPl)) hL
  have s02 := (s0.trans s1).trans s2
  have hLH := (s0.trans s1).free hL
  have gL := P1.gh.free hL
  generalize upd (upd H A0 (.lst [.str "a", .str "b", .str "c0", .str "d_", .str "keys", .str "tables", .str "inn", .str "in_", .str "zzzzzzzz", .str "x9", .str "q_1"])) A1 (.lst [.str "sums", .str "merged", .str "e", .str "zero0"]) = H1 at *
  have hL1 : upd H1 L (.lst (sV NPl)) L = some (.lst (sV NPl)) := upd_same
  generalize upd H1 L (.lst (sV NPl)) = H2 at *
  clear s0 P0 s1 P1 s2 hA0 hA1 eN
  refine ⟨_, rfl, m, rfl, by omega, by omega, fun D hD => ?_⟩
  have nDp : D ≠ p := fun z => P2.there (by rw [← z]; exact hD)
  have nLD : L ≠ D := ne_of_none hL1 hD
  have gD := P2.gh.free hD
  have hDH := s02.free hD
  refine lc_range (lo := 0) (n := m.toNat) (fun i H' => ∃ (G' : Hp) (ys zs : List (List Nat)), Step (some p) G H G' H' ∧ Pq G' H' p (n + i) ∧ G' L = none ∧ G' D = none ∧ H' L = some (.lst (sV zs)) ∧ H' D = some (.lst (sV ys)) ∧ (ys ++ zs).Perm NPl ∧ ys.length = i)
    ⟨G, [], NPl, s02.loc hDH gD, P2.local_ gD nDp, gL, gD, by rw [upd_ne nLD]; exact hL1, upd_same, List.Perm.refl _, rfl⟩ ?_ ?_
  · rintro i H' hi' ⟨G', ys, zs, st, ps, gl, gd, hLz, hDy, pm, rfl⟩
    have pl := pm.length_eq
    rw [List.length_append, NP_len] at pl
    have zl := sV_len zs
    refine ⟨rfl, ?_⟩
    unfold tYes
    refine iteT ⟨_, rfl, .inl ⟨rfl, _, SqL.of hLz⟩, _, rfl, _, rfl, L, _, rfl, .inl (SqL.of hLz), G', p, _, _, rfl, ps, by omega, by omega, by omega, fun d2 Ga Ha sa Pa a2 b2 => ?_⟩
    rw [zl] at b2
    have hk : d2.toNat < zs.length := by omega
    have hLa := sa.kpc _ _ hLz nLp
    have hDa := sa.kpc _ _ hDy nDp
    have gla := sa.out gl (by rw [hLz]; exact fun z => by cases z)
    have gda := sa.out gd (by rw [hDy]; exact fun z => by cases z)
    have ey : zs[d2.toNat]? = some zs[d2.toNat] := List.getElem?_eq_getElem hk
    refine ⟨L, _, d2, d2.toNat, .str (S zs[d2.toNat]), rfl, rfl, hLa, by omega, by omega, by rw [zl]; exact seqIx a2 b2, by rw [List.getElem?_map, List.getElem?_map, ey]; rfl, ?_⟩
    rw [sV_erase]
    refine ⟨sV ys, by rw [upd_ne nLD.symm]; exact hDa, by rw [sV_len]; omega, Ga, ys ++ [zs[d2.toNat]], zs.eraseIdx d2.toNat, ((st.trans sa).loc hLH gla).loc hDH gda, ((Pa.mono (by omega)).local_ gla nLp).local_ gda nDp, gla, gda, by rw [upd_ne nLD, upd_same], ?_, ?_, by rw [List.length_append]; rfl⟩
    · rw [upd_same, ← sV_app]; rfl
    · refine List.Perm.trans ?_ pm
      rw [List.append_assoc]
      exact (erase_perm ey).append_left ys
  rintro H3 ⟨G3, ys, zs, st3, ps3, _, gd3, _, hDy, pm, hyl⟩
  have sF := st3.freeze (q := D) hDH hDy gd3
  have ndy : ys.Nodup := (List.nodup_append.mp (pm.nodup_iff.mpr NP_nd)).1
  have PF := (ps3.frz hDy gd3 nDp).mono (show n + m.toNat ≤ n + 8 by omega)
  have okY : OkC ys := .of (fun y hy => NP_nm y (pm.mem_iff.mp (List.mem_append_left _ hy))) ndy (by omega) (by omega)
  have frY : frW ∉ ys := fun z => NP_fr (pm.mem_iff.mp (List.mem_append_left _ z))
  have gF : upd G3 D (.lst (sV ys)) D = some (.lst (sV ys)) := upd_same
  generalize upd G3 D (.lst (sV ys)) = GF at *
  clear pm gd3 ps3 st3 hDy
  refine ⟨fun σ' H' => ∃ (o4 o5 : Option V) (F : Addr) (G' : Hp) (cs : List (List Nat)), σ' = [some (.ref p), some (.int m), some (.ref L), some (.ref F), o4, o5, none, none] ∧ Step (some p) G H G' H' ∧ Pq G' H' p (n + 20) ∧ G' F = some (.lst (sV cs)) ∧ OkC cs ∧ frW ∉ cs ∧ cs.length = m.toNat, ?_, ?_⟩
  · refine ⟨_, rfl, GF, p, _, 3, rfl, PF, by omega, by decide, by decide, fun d Ga Ha sa Pa a b => ⟨rfl, _, rfl, ?_⟩⟩
    have stA := sF.trans sa
    refine ite2 (fun _ => ?_) (fun _ => ⟨none, none, D, Ga, ys, rfl, stA, Pa.mono (by omega), sa.gg _ _ gF, okY, frY, hyl⟩)
    have cl : CH.cps.toList = CHl := CH_c
    have c37 : CH.length ≤ sizeLine := by decide +kernel
    refine ⟨⟨_, rfl⟩, _, rfl, Ga, p, _, 6, rfl, Pa, by omega, by decide, by decide, fun d6 Gb Hb sb Pb a6 b6 => ⟨d6, rfl, by omega, by omega, fun Dt hDt => ?_⟩⟩
    have stB := stA.trans sb
    have nDtp : Dt ≠ p := fun z => Pb.there (by rw [← z]; exact hDt)
    have gDt := Pb.gh.free hDt
    have hDtH := stB.free hDt
    refine lc_range (lo := 0) (n := d6.toNat) (fun i H' => ∃ (G' : Hp) (ts : List (List Nat)), Step (some p) G H G' H' ∧ Pq G' H' p (n + 10 + i) ∧ G' Dt = none ∧ H' Dt = some (.lst (sV ts)) ∧ ts.length = i ∧ ∀ y ∈ ts, ∃ c, y = [c] ∧ sgB c = true)
      ⟨Gb, [], stB.loc hDtH gDt, (Pb.mono (by omega)).local_ gDt nDtp, gDt, upd_same, rfl, fun y h => by cases h⟩ ?_ ?_
    · rintro i H' hi' ⟨G', ts, st, ps, gt, hT, rfl, hts⟩
      refine ⟨rfl, ?_⟩
      unfold tYes
      refine iteT ⟨_, rfl, _, rfl, G', p, _, 37, rfl, ps, by omega, by decide, by decide, fun d7 Gc Hc sc Pc a7 b7 => ?_⟩
      obtain ⟨c, mc, ec⟩ := atI_mem (xs := CHl) a7 (by rw [CHl_len]; exact b7)
      have hTc := sc.kpc _ _ hT nDtp
      have gtc := sc.out gt (by rw [hT]; exact fun z => by cases z)
      refine ⟨CH, d7, c, rfl, rfl, c37, by rw [cl]; exact ec, sV ts, hTc, by rw [sV_len]; omega, Gc, ts ++ [[c]], (st.trans sc).loc hDtH gtc, (Pc.mono (by omega)).local_ gtc nDtp, gtc, ?_, by rw [List.length_append]; rfl, fun y hy => ?_⟩
      · rw [upd_same, ← sV_app]; rfl
      · rcases List.mem_append.mp hy with hy | hy
        · exact hts y hy
        · exact ⟨c, List.mem_singleton.mp hy, CHl_sg c mc⟩
    rintro H4 ⟨G4, ts, st4, ps4, gt4, hT4, htl, hts⟩
    obtain ⟨f1, f2⟩ := flat1 hts
    refine ⟨"", Dt, ts.map S, rfl, rfl, .inl (SqL.of hT4), ?_, ?_⟩
    · rw [sum1 hts, List.length_map]
      have l0 : ("" : Str).length = 0 := rfl
      rw [l0]
      omega
    rw [em0, join_S, joinL_nil']
    generalize ts.flatten = tl at f1 f2
    refine ⟨_, rfl, m, rfl, by omega, by omega, fun D2 hD2 => ?_⟩
    have nD2p : D2 ≠ p := fun z => ps4.there (by rw [← z]; exact hD2)
    have gD2 := ps4.gh.free hD2
    have hD2H := st4.free hD2
    refine lc_range (lo := 0) (n := m.toNat) (fun i H' => Step (some p) G H G4 H' ∧ Pq G4 H' p (n + 20) ∧ H' D2 = some (.lst (sV ((CHl.take i).map (qn tl)))))
      ⟨st4.loc hD2H gD2, (ps4.mono (by omega)).local_ gD2 nD2p, upd_same⟩ ?_ ?_
    · rintro i H' hi' ⟨st, ps, hT⟩
      have i37 : i < CHl.length := by rw [CHl_len]; omega
      have ei : CHl[i]? = some CHl[i] := List.getElem?_eq_getElem i37
      have ez : (0 : Int) + (i : Nat) = (i : Nat) := Int.zero_add _
      refine ⟨rfl, ?_⟩
      unfold tYes
      refine iteT ⟨_, rfl, _, rfl, CH, _, CHl[i], rfl, rfl, c37, by rw [cl, ez]; exact atI_nat ei, "q", _, rfl, rfl, by rw [q_w]; show (S [113]).length + (S [CHl[i]]).length ≤ _; rw [S_len, S_len]; show 1 + 1 ≤ sizeLine; decide, _, rfl, _, _, rfl, rfl, ?_, ?_⟩
      · rw [q_w]
        show (S [113] ++ S [CHl[i]]).length + (S tl).length ≤ sizeLine
        rw [S_cat, S_len, S_len]
        show 2 + tl.length ≤ _
        omega
      · refine ⟨_, hT, by rw [sV_len, List.length_map, List.length_take]; omega, st.loc hD2H gD2, ps.local_ gD2 nD2p, ?_⟩
        rw [upd_same, List.take_succ, ei, List.map_append, ← sV_app]
        have e5 : ("q" : Str) ++ (⟨#[CHl[i]]⟩ : Str) ++ S tl = S (qn tl CHl[i]) := by
          rw [q_w]
          show S [113] ++ S [CHl[i]] ++ S tl = _
          rw [S_cat, S_cat]
          rfl
        show some (HO.lst (_ ++ [V.str (("q" : Str) ++ (⟨#[CHl[i]]⟩ : Str) ++ S tl)])) = _
        rw [e5]
        rfl
    rintro H5 ⟨st5, ps5, hD5⟩
    have sG := st5.freeze (q := D2) hD2H hD5 gD2
    have tk : (CHl.take m.toNat).length = m.toNat := by rw [List.length_take, CHl_len]; omega
    refine ⟨_, _, D2, _, (CHl.take m.toNat).map (qn tl), rfl, sG, ps5.frz hD5 gD2 nD2p, upd_same, .of (fun y hy => ?_) ?_ (by rw [List.length_map, tk]; omega) (by rw [List.length_map, tk]; omega), fun z => ?_, by rw [List.length_map, tk]⟩
    · obtain ⟨c, hc, rfl⟩ := List.mem_map.mp hy
      exact qn_nm (CHl_sg c (List.mem_of_mem_take hc)) f2 (by omega)
    · exact inj_nodup (fun a b e => (List.cons.inj (List.cons.inj e).2).1) (CHl_nd.sublist (List.take_sublist _ _))
    · obtain ⟨c, hc, e⟩ := List.mem_map.mp z
      exact absurd (List.cons.inj e).1 (by decide)
  rintro σ' H6 ⟨o4, o5, F, G6, cs, rfl, st6, ps6, g6, ok6, fr6, l6⟩
  exact ⟨_, rfl, q F cs G6 H6 st6 ps6 g6 ok6 fr6 l6⟩
end Pf
namespace Bs
open PySem PySem.Spec PyProof.Rows L2 SX
variable {P : Program} {w : World} {K : PySem.W.Frag} {mg : Str → Option Value} {base : Heap}
def spLieN (K : PySem.W.Frag) : Sp := fun vs H Q _ => ∃ (G : Hp) (p l : Addr) (n : Nat) (cs : List (List Nat)), vs = [.ref p, .ref l] ∧ Pq G H p n ∧ n ≤ 850000 ∧ H l = some (.lst (sV cs)) ∧ l ≠ p ∧ OkC cs ∧
  ∀ (a : Addr) (li : Lie) (G' H' : Hp), Step (some p) G H G' H' → Pq G' H' p (n + 20) → LieAt K G' a li → OkL cs li → Q (.ref a) H'
/-- a bare table as a list of the law's -/
structure Bare (K : PySem.W.Frag) (G : Hp) (a : Addr) (b : Br) : Prop where
  ex : ∃ c k l, G a = some (.lst [.str (S b.n), .ref c, .ref k, .ref l]) ∧ BrAt K G c k l b
theorem Bare.same {G H : Hp} {a : Addr} {b : Br} (h : Bare K G a b) (s : Same G H) : Bare K H a b := by
  obtain ⟨c, k, l, h1, h2⟩ := h.ex
  exact ⟨c, k, l, s _ _ h1, h2.same s⟩
def spBare (K : PySem.W.Frag) : Sp := fun vs H Q _ => ∃ (G : Hp) (p : Addr) (n : Nat), vs = [.ref p] ∧ Pq G H p n ∧ n ≤ 800000 ∧
  ∀ (a : Addr) (b : Br) (G' H' : Hp), Step (some p) G H G' H' → Pq G' H' p (n + 100) → Bare K G' a b → Ok b → frW ∉ b.cs → Q (.ref a) H'
end Bs
namespace Pf
open PySem PySem.Spec PyProof.Rows L2 Bs SX
variable {P : Program} {w : World} {K : PySem.W.Frag} {mg : Str → Option Value} {base : Heap}
abbrev N_Llie : List Str := ["_law_pen_here", "_law_columns", "_law_dealt"]
theorem sc_Llie : FnScope N_Llie ["_law_pen_here", "_law_columns"] (defScope s_Llie) := ⟨rfl, rfl, rfl, by decide +kernel, rfl, by decide +kernel, by decide +kernel⟩
theorem c_Llie (T : Tx K mg) : C8.Cal P w K mg base 3 "_law_lie" (spLieN K) [] := by
  obtain ⟨fd, F⟩ := f_Llie T
  have c_Lpick := c_Lpick (P := P) (w := w) (base := base) T
  have c_Lsome := c_Lsome (P := P) (w := w) (base := base) T
  refine mkCal F (g_law_lie T) (F.bindsN fun _ _ _ _ _ _ us hl => match us, hl with | [_, _], _ => rfl) .nil sc_Llie (fun vs H Q E h => ?_) (fun cdv A outer s H vs Q E hr h => ?_)
  · obtain ⟨G, p, l, n, cs, rfl, _⟩ := h
    rfl
  obtain ⟨G, p, l, n, cs, rfl, hP, hn, hl, nlp, ok, q⟩ := h
  refine ⟨_, (pss_cons (ps_set (i := 2) sc_Llie.nd rfl (Or.inl rfl) (pe_tup (pa_cons pe_str (pa_cons (C8.pe_c c_Lpick hr (by first | decide | omega) rfl (pa_cons (pv 0) (pa_cons (pe_lst (pa_cons pe_str (pa_cons pe_str (pa_cons pe_str pa_nil)))) pa_nil))) (pa_cons (pe_callTy call_tuple_of (by rfl) (z_tuple T) boot_tuple (pa_cons (C8.pe_c c_Lsome hr (by first | decide | omega) rfl (pa_cons (pv 0) (pa_cons (pv 1) (pa_cons pe_int (pa_cons pe_int pa_nil))))) pa_nil)) pa_nil)))))
    (pss_one (ps_ret (C8.pe_c c_Lpick hr (by first | decide | omega) rfl (pa_cons (pv 0) (pa_cons (pe_lst (pa_cons (pe_tup (pa_cons pe_str pa_nil)) (pa_cons (pe_tup (pa_cons pe_str pa_nil)) (pa_cons (pe_tup (pa_cons pe_str pa_nil)) (pa_cons (pv 2) (pa_cons (pv 2) pa_nil)))))) pa_nil)))))), ?_⟩
  have sl : sizeLine = 16777216 := rfl
  refine ⟨_, rfl, by show 3 ≤ sizeLine; decide, fun A hA => ?_⟩
  have nAp : A ≠ p := fun z => hP.there (by rw [← z]; exact hA)
  obtain ⟨s0, P0⟩ := hP.loc (o := .lst [.str "r", .str "a", .str "rule_2"]) hA
  have hl0 : upd H A (.lst [.str "r", .str "a", .str "rule_2"]) l = some (.lst (sV cs)) := by rw [upd_ne (ne_of_none hl hA)]; exact hl
  refine ⟨G, p, A, n, [.str "r", .str "a", .str "rule_2"], rfl, P0, by omega, upd_same, nAp, by decide, by decide, fun r G1 H1 mr s1 P1 => ?_⟩
  obtain ⟨wr, rfl, nr⟩ : ∃ wr, r = .str (S wr) ∧ Nm wr := by
    simp only [List.mem_cons, List.mem_nil_iff, or_false] at mr
    rcases mr with rfl | rfl | rfl
    · exact ⟨[114], by rw [show ("r" : Str) = S [114] by decide +kernel], nm_of (by decide +kernel)⟩
    · exact ⟨[97], by rw [show ("a" : Str) = S [97] by decide +kernel], nm_of (by decide +kernel)⟩
    · exact ⟨[114, 117, 108, 101, 95, 50], by rw [show ("rule_2" : Str) = S [114, 117, 108, 101, 95, 50] by decide +kernel], nm_of (by decide +kernel)⟩
  have hl1 := s1.kpc _ _ hl0 nlp
  have lo1 := ok.lo
  refine ⟨_, rfl, _, rfl, G1, p, l, n + 1, cs, 1, 3, rfl, P1, by omega, hl1, ok.nd, ok.hi, by decide, by decide, by decide, by omega, fun ld ds G2 H2 s2 P2 gd sub lo hi => ?_⟩
  refine ⟨ld, _, rfl, .inl ⟨SqL.of (P2.gh _ _ gd), fun td htd => ?_⟩⟩
  obtain ⟨s3, P3⟩ := P2.new_ (o := .tup (sV ds)) htd
  refine ⟨by show 3 ≤ sizeLine; decide, fun t ht => ?_⟩
  obtain ⟨s4, P4⟩ := P3.new_ (o := .tup [.str "dealt", .str (S wr), .ref td]) ht
  have gtd : upd (upd G2 td (.tup (sV ds))) t (.tup [.str "dealt", .str (S wr), .ref td]) td = some (.tup (sV ds)) := s4.gg _ _ upd_same
  have gt : upd (upd G2 td (.tup (sV ds))) t (.tup [.str "dealt", .str (S wr), .ref td]) t = some (.tup [.str "dealt", .str (S wr), .ref td]) := upd_same
  generalize upd (upd G2 td (.tup (sV ds))) t (.tup [.str "dealt", .str (S wr), .ref td]) = G4 at *
  generalize upd (upd H2 td (.tup (sV ds))) t (.tup [.str "dealt", .str (S wr), .ref td]) = H4 at *
  have st4 := (((s0.trans s1).trans s2).trans s3).trans s4
  clear s0 s1 s2 s3 s4 P0 P1 P2 P3
  refine ⟨_, rfl, by show 1 ≤ sizeLine; decide, fun t1 h1 => ?_⟩
  obtain ⟨s5, P5⟩ := P4.new_ (o := .tup [.str "copied"]) h1
  have g1 : upd G4 t1 (.tup [.str "copied"]) t1 = some (.tup [.str "copied"]) := upd_same
  generalize upd G4 t1 (.tup [.str "copied"]) = G5 at *
  generalize upd H4 t1 (.tup [.str "copied"]) = H5 at *
  refine ⟨by show 1 ≤ sizeLine; decide, fun t2 h2 => ?_⟩
  obtain ⟨s6, P6⟩ := P5.new_ (o := .tup [.str "anyhow"]) h2
  have g2 : upd G5 t2 (.tup [.str "anyhow"]) t2 = some (.tup [.str "anyhow"]) := upd_same
  generalize upd G5 t2 (.tup [.str "anyhow"]) = G6 at *
  generalize upd H5 t2 (.tup [.str "anyhow"]) = H6 at *
  refine ⟨by show 1 ≤ sizeLine; decide, fun t3 h3 => ?_⟩
  obtain ⟨s7, P7⟩ := P6.new_ (o := .tup [.str "zero"]) h3
  have g3 : upd G6 t3 (.tup [.str "zero"]) t3 = some (.tup [.str "zero"]) := upd_same
  generalize upd G6 t3 (.tup [.str "zero"]) = G7 at *
  generalize upd H6 t3 (.tup [.str "zero"]) = H7 at *
  refine ⟨_, rfl, _, rfl, by show 5 ≤ sizeLine; decide, fun B hB => ?_⟩
  have nBp : B ≠ p := fun z => P7.there (by rw [← z]; exact hB)
  obtain ⟨s8, P8⟩ := P7.loc (o := .lst [.ref t1, .ref t2, .ref t3, .ref t, .ref t]) hB
  refine ⟨G7, p, B, _, [.ref t1, .ref t2, .ref t3, .ref t, .ref t], rfl, P8, by omega, upd_same, nBp, by show 0 < 5; decide, by show 5 ≤ 1000; decide, fun v G9 H9 mv s9 P9 => ?_⟩
  have k67 := s6.gg.trans s7.gg
  have k57 := s5.gg.trans k67
  have k8 := s8.gg.trans s9.gg
  have fin := ((((st4.trans s5).trans s6).trans s7).trans s8).trans s9
  have PF := P9.mono (show n + 1 + 10 + 1 ≤ n + 20 by omega)
  simp only [List.mem_cons, List.mem_nil_iff, or_false] at mv
  have dl : LieAt K G9 t (.dealt wr ds) := by
    refine ⟨td, SqT.of (k8 _ _ (k57 _ _ ?_)), SqT.of (k8 _ _ (k57 _ _ gtd))⟩
    rw [gt, dealt_]
  have okd : OkL cs (.dealt wr ds) := ⟨fun r2 d2 e => by cases e; exact ⟨nr, sub, by omega, by omega⟩⟩
  rcases mv with rfl | rfl | rfl | rfl | rfl
  · refine q t1 .copied G9 H9 fin PF (show SqT K G9 t1 [.str (S _)] from ?_) ⟨fun r2 d2 e => by cases e⟩
    exact SqT.of (k8 _ _ (k67 _ _ (by rw [g1, copied_]; rfl)))
  · refine q t2 .anyhow G9 H9 fin PF (show SqT K G9 t2 [.str (S _)] from ?_) ⟨fun r2 d2 e => by cases e⟩
    exact SqT.of (k8 _ _ (s7.gg _ _ (by rw [g2, anyhow_]; rfl)))
  · refine q t3 .zero G9 H9 fin PF (show SqT K G9 t3 [.str (S _)] from ?_) ⟨fun r2 d2 e => by cases e⟩
    exact SqT.of (k8 _ _ (by rw [g3, zero_w]; rfl))
  · exact q t (.dealt wr ds) G9 H9 fin PF dl okd
  · exact q t (.dealt wr ds) G9 H9 fin PF dl okd
abbrev N_Lbare : List Str := ["_law_pen_here", "_law_columns", "_law_asked"]
theorem sc_Lbare : FnScope N_Lbare ["_law_pen_here"] (defScope s_Lbare) := ⟨rfl, rfl, rfl, by decide +kernel, rfl, by decide +kernel, by decide +kernel⟩
theorem c_Lbare (T : Tx K mg) : C8.Cal P w K mg base 4 "_law_bare" (spBare K) [] := by
  obtain ⟨fd, F⟩ := f_Lbare T
  have c_Lpick := c_Lpick (P := P) (w := w) (base := base) T
  have c_Lsome := c_Lsome (P := P) (w := w) (base := base) T
  have c_Lnames := c_Lnames (P := P) (w := w) (base := base) T
  have c_Ldraw := c_Ldraw (P := P) (w := w) (base := base) T
  have c_Llie := c_Llie (P := P) (w := w) (base := base) T
  refine mkCal F (g_law_bare T) (F.bindsN fun _ _ _ _ _ _ us hl => match us, hl with | [_], _ => rfl) .nil sc_Lbare (fun vs H Q E h => ?_) (fun cdv A outer s H vs Q E hr h => ?_)
  · obtain ⟨G, p, n, rfl, _⟩ := h
    rfl
  obtain ⟨G, p, n, rfl, hP, hn, q⟩ := h
  refine ⟨_, (pss_cons (ps_set (i := 1) sc_Lbare.nd rfl (Or.inl rfl) (C8.pe_c c_Lnames hr (by first | decide | omega) rfl (pa_cons (pv 0) (pa_cons (pe_op op_add pe_int (C8.pe_c c_Ldraw hr (by first | decide | omega) rfl (pa_cons (pv 0) (pa_cons (C8.pe_c c_Lpick hr (by first | decide | omega) rfl (pa_cons (pv 0) (pa_cons (pe_lst (pa_cons pe_int (pa_cons pe_int pa_nil))) pa_nil))) pa_nil)))) pa_nil))))
    (pss_cons (ps_set (i := 2) sc_Lbare.nd rfl (Or.inl rfl) (C8.pe_c c_Lpick hr (by first | decide | omega) rfl (pa_cons (pv 0) (pa_cons (pe_lst (pa_cons (pe_lst pa_nil) (pa_cons (C8.pe_c c_Lsome hr (by first | decide | omega) rfl (pa_cons (pv 0) (pa_cons (pv 1) (pa_cons pe_int (pa_cons pe_int pa_nil))))) pa_nil))) pa_nil))))
    (pss_one (ps_ret (pe_lst (pa_cons (C8.pe_c c_Lpick hr (by first | decide | omega) rfl (pa_cons (pv 0) (pa_cons (pe_op op_cat (C8.pe_c c_Lnames hr (by first | decide | omega) rfl (pa_cons (pv 0) (pa_cons pe_int pa_nil))) (pv 1)) pa_nil))) (pa_cons (pv 1) (pa_cons (pv 2) (pa_cons (C8.pe_c c_Llie hr (by first | decide | omega) rfl (pa_cons (pv 0) (pa_cons (pv 1) pa_nil))) pa_nil))))))))), ?_⟩
  have sl : sizeLine = 16777216 := rfl
  refine ⟨_, rfl, _, rfl, _, rfl, by show 2 ≤ sizeLine; decide, fun A hA => ?_⟩
  have nAp : A ≠ p := fun z => hP.there (by rw [← z]; exact hA)
  obtain ⟨s0, P0⟩ := hP.loc (o := .lst [.int 4, .int 8]) hA
  refine ⟨G, p, A, n, [.int 4, .int 8], rfl, P0, by omega, upd_same, nAp, by decide, by decide, fun v G1 H1 mv s1 P1 => ?_⟩
  obtain ⟨k, rfl, k0, k8⟩ : ∃ k : Int, v = .int k ∧ 0 < k ∧ k ≤ 8 := by
    simp only [List.mem_cons, List.mem_nil_iff, or_false] at mv
    rcases mv with rfl | rfl
    · exact ⟨4, rfl, by decide, by decide⟩
    · exact ⟨8, rfl, by decide, by decide⟩
  refine ⟨G1, p, _, k, rfl, P1, by omega, k0, by omega, fun d G2 H2 s2 P2 a b => ⟨_, _, rfl, rfl, ?_⟩⟩
  refine ⟨G2, p, _, 1 + d, rfl, P2, by omega, by omega, by omega, fun lc cs G3 H3 s3 P3 gc ok fr len => ?_⟩
  have st3 := ((s0.trans s1).trans s2).trans s3
  clear s0 s1 s2 s3 P0 P1 P2
  have nout : ∀ {G' H' : Hp} {m : Nat} {x : Addr} {o : HO}, Pq G' H' p m → G' x = some o → x ≠ p := fun {G' H' m x o} P e z => by rw [z, P.out] at e; cases e
  have lo1 := ok.lo
  refine ⟨_, rfl, by show 0 ≤ sizeLine; decide, fun E' hE => ?_⟩
  obtain ⟨s4, P4⟩ := P3.new_ (o := .lst (sV [])) hE
  have gE : upd G3 E' (.lst (sV [])) E' = some (.lst (sV [])) := upd_same
  have gc4 := s4.gg _ _ gc
  change _ at P4
  generalize upd G3 E' (.lst (sV [])) = G4 at *
  generalize eH4 : upd H3 E' (.lst (sV [])) = H4 at *
  rw [show upd H3 E' (.lst []) = H4 from eH4]
  refine ⟨_, rfl, _, rfl, G4, p, lc, _, cs, 1, 8, rfl, P4, by omega, P4.gh _ _ gc4, ok.nd, ok.hi, by decide, by decide, by decide, by omega, fun la ys G5 H5 s5 P5 ga sub lo hi => ?_⟩
  refine ⟨by show 2 ≤ sizeLine; decide, fun B hB => ?_⟩
  have nBp : B ≠ p := fun z => P5.there (by rw [← z]; exact hB)
  obtain ⟨s6, P6⟩ := P5.loc (o := .lst [.ref E', .ref la]) hB
  refine ⟨G5, p, B, _, [.ref E', .ref la], rfl, P6, by omega, upd_same, nBp, by show 0 < 2; decide, by show 2 ≤ 1000; decide, fun v G7 H7 mv s7 P7 => ?_⟩
  have k7 := s6.gg.trans s7.gg
  obtain ⟨lk, ky, rfl, gk, sk⟩ : ∃ (lk : Addr) (ky : List (List Nat)), v = .ref lk ∧ G7 lk = some (.lst (sV ky)) ∧ Sub ky cs := by
    simp only [List.mem_cons, List.mem_nil_iff, or_false] at mv
    rcases mv with rfl | rfl
    · exact ⟨E', [], rfl, k7 _ _ (s5.gg _ _ gE), ⟨fun k h => (by cases h), List.nodup_nil⟩⟩
    · exact ⟨la, ys, rfl, k7 _ _ ga, sub⟩
  have gc7 := k7 _ _ (s5.gg _ _ gc4)
  have st7 := (((st3.trans s4).trans s5).trans s6).trans s7
  clear s4 s5 s6 s7 k7 P4 P5 P6 st3 gc4
  refine ⟨_, rfl, _, rfl, G7, p, _, 3, rfl, P7, by omega, by decide, by decide, fun l3 cs3 G8 H8 s8 P8 g3 ok3 _ len3 => ?_⟩
  have gc8 := s8.gg _ _ gc7
  have c8 := ok.hi
  have c38 := ok3.hi
  refine ⟨_, rfl, l3, lc, _, _, rfl, rfl, P8.gh _ _ g3, P8.gh _ _ gc8, by rw [sV_len, sV_len]; omega, fun C hC => ?_⟩
  have nCp : C ≠ p := fun z => P8.there (by rw [← z]; exact hC)
  rw [sV_app]
  obtain ⟨s9, P9⟩ := P8.loc (o := .lst (sV (cs3 ++ cs))) hC
  refine ⟨G8, p, C, _, sV (cs3 ++ cs), rfl, P9, by omega, upd_same, nCp, by rw [sV_len, List.length_append]; omega, by rw [sV_len, List.length_append]; omega, fun v G10 H10 mv s10 P10 => ?_⟩
  obtain ⟨nm, rfl, hnm⟩ : ∃ nm, v = .str (S nm) ∧ Nm nm := by
    obtain ⟨x, hx, rfl⟩ := List.mem_map.mp mv
    obtain ⟨y, hy, rfl⟩ := List.mem_map.mp hx
    refine ⟨y, rfl, ?_⟩
    rcases List.mem_append.mp hy with h | h
    · exact ok3.nm y h
    · exact ok.nm y h
  have k10 := (s8.gg.trans s9.gg).trans s10.gg
  have gc10 := k10 _ _ gc7
  have gk10 := k10 _ _ gk
  refine ⟨_, rfl, _, rfl, _, rfl, _, rfl, G10, p, lc, _, cs, rfl, P10, by omega, P10.gh _ _ gc10, nout P10 gc10, ok, fun al li G11 H11 s11 P11 hla okl => ?_⟩
  refine ⟨by show 4 ≤ sizeLine; decide, fun a ha => ?_⟩
  obtain ⟨s12, P12⟩ := P11.new_ (o := .lst [.str (S nm), .ref lc, .ref lk, .ref al]) ha
  refine q a ⟨nm, cs, ky, li⟩ _ _ (((((st7.trans s8).trans s9).trans s10).trans s11).trans s12) (P12.mono (by omega)) ⟨lc, lk, al, upd_same, ?_⟩ ⟨hnm, ok, sk, okl⟩ fr
  have k12 := s11.gg.trans s12.gg
  exact ⟨k12 _ _ gc10, k12 _ _ gk10, hla.same s12.gg⟩
end Pf
namespace Bs
open PySem PySem.Spec PyProof.Rows L2 SX
variable {P : Program} {w : World} {K : PySem.W.Frag} {mg : Str → Option Value} {base : Heap}
def spMade (K : PySem.W.Frag) (C : Addr) : Sp := fun vs H Q _ => ∃ (G : Hp) (p a : Addr) (n : Nat) (b : Br), vs = [.ref p, .ref a] ∧ Pq G H p n ∧ n ≤ 800000 ∧ Bare K G a b ∧ Ok b ∧
  ∀ (x : Addr) (G' H' : Hp), Step (some p) G H G' H' → Pq G' H' p (n + 3) → TbAt K C G' x b → Q (.ref x) H'
def spRowN (K : PySem.W.Frag) : Sp := fun vs H Q _ => ∃ (G : Hp) (a : Addr) (b : Br), vs = [.ref a] ∧ Same G H ∧ Bare K G a b ∧ Ok b ∧ ∀ H' : Hp, Step none G H G H' → Q (.str (S (txtB b))) H'
def spIsT (K : PySem.W.Frag) (C : Addr) : Sp := fun vs H Q _ => ∃ (G : Hp) (x a : Addr) (b : Br), vs = [.ref x, .ref a] ∧ Same G H ∧ TbAt K C G x b ∧ Bare K G a b ∧ Ok b ∧ ∀ H' : Hp, Step none G H G H' → Q (.bl true) H'
def spOtherN (K : PySem.W.Frag) : Sp := fun vs H Q _ => ∃ (G : Hp) (p a : Addr) (n : Nat) (b : Br), vs = [.ref p, .ref a] ∧ Pq G H p n ∧ n ≤ 800000 ∧ Bare K G a b ∧ Ok b ∧ frW ∉ b.cs ∧
  ∀ (a' : Addr) (b' : Br) (G' H' : Hp), Step (some p) G H G' H' → Pq G' H' p (n + 50) → Bare K G' a' b' → Ok b' → Q (.ref a') H'
def spKeyed (K : PySem.W.Frag) (C : Addr) : Sp := fun vs H Q _ => ∃ (G : Hp) (x l : Addr) (b : Br) (ks : List (List Nat)), vs = [.ref x, .ref l] ∧ Same G H ∧ TbAt K C G x b ∧ Ok b ∧ G l = some (.lst (sV ks)) ∧ Sub ks b.cs ∧ ks.length ≤ 3 ∧
  ∀ (G' H' : Hp) (x' : Addr), Step none G H G' H' → TbAt K C G' x' { b with ky := ks } → Q (.ref x') H'
theorem wkr {C : Addr} {G H : Hp} {x : Addr} {b : Br} {ks : List (List Nat)} {Q : VK} {E : XK} (hG : Same G H) (hx : TbAt K C G x b) (ok : Ok b) (hs : Sub ks b.cs) (h3 : ks.length ≤ 3) (q : ∀ (G' H' : Hp) (x' : Addr), Step none G H G' H' → TbAt K C G' x' { b with ky := ks } → Q (.ref x') H') :
    spWKr K C (.ref x :: sV ks) H Q E := by
  have sl : sizeLine = 16777216 := rfl
  exact ⟨[.ref x], sV ks, rfl, rfl, by rw [sV_len]; omega, fun p hp => ⟨G, x, p, b, ks, rfl, Same.new hG hp, hx, ok, SqT.of upd_same, hs, fun G' H' x' st tb => q G' H' x' (((Step.refl hG).loc hp (hG.free hp)).trans st) tb⟩⟩
theorem shp_strs {xs : List (List Nat)} (h : ∀ x ∈ xs, Nm x) : SeqAt.shaped (.list (strsD xs)) = true := by
  obtain ⟨h1, h2⟩ := lay_strs h
  unfold SeqAt.shaped
  simp [PyData.canLay0, PyData.depth, h1, h2]
theorem eqv_nl (ks : List (List Nat)) : (PyData.list (strsD ks)).eqv (.list []) = decide (ks = []) := strs_eqv ks []
end Bs
namespace Pf
open PySem PySem.Spec PyProof.Rows L2 Bs SX
variable {P : Program} {w : World} {K : PySem.W.Frag} {mg : Str → Option Value} {base : Heap}
abbrev N_Lmade : List Str := ["_law_pen_here", "_law_bare_here", "_law_name", "_law_columns", "_law_asked", "_law_lie_here"]
theorem sc_Lmade : FnScope N_Lmade ["_law_pen_here", "_law_bare_here"] (defScope s_Lmade) := ⟨rfl, rfl, rfl, by decide +kernel, rfl, by decide +kernel, by decide +kernel⟩
theorem c_Lmade (T : Tx K mg) : C8.Cal P w K mg base 7 "_law_made" (spMade K (CTb K)) [] := by
  obtain ⟨fd, F⟩ := f_Lmade T
  have c_Ldraw := c_Ldraw (P := P) (w := w) (base := base) T
  have m_Table := m_Table (P := P) (w := w) (base := base) T
  have kp_Table_key_lies := kp_Table_key_lies (P := P) (w := w) (base := base) T
  have kp_Table_key := kp_Table_key (P := P) (w := w) (base := base) T
  have kp_Table_lies := kp_Table_lies (P := P) (w := w) (base := base) T
  refine mkCal F (g_law_made T) (F.bindsN fun _ _ _ _ _ _ us hl => match us, hl with | [_, _], _ => rfl) .nil sc_Lmade (fun vs H Q E h => ?_) (fun cdv A outer s H vs Q E hr h => ?_)
  · obtain ⟨G, p, a, n, b, rfl, _⟩ := h
    rfl
  obtain ⟨G, p, a, n, b, rfl, hP, hn, hb, ok, q⟩ := h
  refine ⟨_, (pss_cons (ps_asg (pv 1) (pg_unl rfl (pgs_cons (pg_name (i := 2) sc_Lmade.nd rfl (Or.inl rfl)) (pgs_cons (pg_name (i := 3) sc_Lmade.nd rfl (Or.inl rfl)) (pgs_cons (pg_name (i := 4) sc_Lmade.nd rfl (Or.inl rfl)) (pgs_cons (pg_name (i := 5) sc_Lmade.nd rfl (Or.inl rfl)) pgs_nil))))))
    (C8.pss_cut (ps_if (PW.pt (pw_and (pt_cmpR (op_eqD hr.units) (pv 4) (pe_lst pa_nil) (nomark _)) (pw_and (pt_cmpR (op_eqD hr.units) (pv 5) (pe_tup (pa_cons pe_str pa_nil)) (nomark _)) (pw_and1 (pt_cmpR op_eq (C8.pe_c c_Ldraw hr (by first | decide | omega) rfl (pa_cons (pv 0) (pa_cons pe_int pa_nil))) pe_int (nomark _)))))) (pss_one (ps_ret (C8.pe_mk m_Table hr (by first | decide | omega) rfl (pa_cons (pv 2) (pa_cons (pv 3) pa_nil))))) pss_nil)
    (C8.pss_cut (ps_if (PW.pt (pw_and (pt_cmpR (op_eqD hr.units) (pv 4) (pe_lst pa_nil) (nomark _)) (pw_and1 (pt_cmpR op_eq (C8.pe_c c_Ldraw hr (by first | decide | omega) rfl (pa_cons (pv 0) (pa_cons pe_int pa_nil))) pe_int (nomark _))))) (pss_one (ps_ret (pe_mkp kp_Table_lies hr (by first | decide | omega) rfl (pa_cons (pv 2) (pa_cons (pv 3) pa_nil)) (pk_cons (pv 5) pk_nil)))) pss_nil)
    (C8.pss_cut (ps_if (PW.pt (pw_and (pt_cmpR (op_eqD hr.units) (pv 5) (pe_tup (pa_cons pe_str pa_nil)) (nomark _)) (pw_and1 (pt_cmpR op_eq (C8.pe_c c_Ldraw hr (by first | decide | omega) rfl (pa_cons (pv 0) (pa_cons pe_int pa_nil))) pe_int (nomark _))))) (pss_one (ps_ret (pe_mkp kp_Table_key hr (by first | decide | omega) rfl (pa_cons (pv 2) (pa_cons (pv 3) pa_nil)) (pk_cons (pv 4) pk_nil)))) pss_nil)
    (pss_one (ps_ret (pe_mkp kp_Table_key_lies hr (by first | decide | omega) rfl (pa_cons (pv 2) (pa_cons (pv 3) pa_nil)) (pk_cons (pv 4) (pk_cons (pv 5) pk_nil))))))))), ?_⟩
  obtain ⟨c, k, l, hb1, hb2⟩ := hb.ex
  have nmk : ∀ x ∈ b.ky, Nm x := fun x hx => ok.c.nm x (ok.k.mem x hx)
  refine ⟨_, rfl, a, _, rfl, SqL.of (hP.gh _ _ hb1), rfl, _, _, rfl, _, _, rfl, _, _, rfl, _, _, rfl, rfl, ?_⟩
  have st : Step (some p) G H G H := Step.refl hP.gh
  refine ⟨fun σ' H' => ∃ G' : Hp, σ' = [some (.ref p), some (.ref a), some (.str (S b.n)), some (.ref c), some (.ref k), some (.ref l)] ∧ Step (some p) G H G' H' ∧ Pq G' H' p (n + 1), ?_, ?_⟩
  · have ps := hP
    have H' := H
    refine ⟨_, rfl, by show 0 ≤ sizeLine; decide, fun E' hE => ?_⟩
    have hbE := hb2.same st.gg
    obtain ⟨sE, PE'⟩ := ps.loc (o := .lst []) hE
    refine ⟨.list (strsD b.ky), .list [], .lst (SqL.of (PE'.gh _ _ hbE.k)) (dp_sV _), .lst (SqL.of upd_same) .nil, shp_strs nmk, shp_strs (xs := []) (fun x h => by cases h), _, rfl, ?_⟩
    rw [eqv_nl]
    have stE := st.trans sE
    generalize upd H E' (.lst []) = HE at *

    refine ite2 (fun zk => ?_) (fun _ => ⟨G, rfl, stE, PE'.mono (by omega)⟩)
    have zk := of_decide_eq_true zk
    refine ⟨_, rfl, by show 1 ≤ sizeLine; decide, fun T1 hT => ?_⟩
    have hbT := hb2.same stE.gg
    obtain ⟨sT, PT⟩ := PE'.loc (o := .tup [.str "anyhow"]) hT
    refine ⟨lieD b.li, lieD .anyhow, (hbT.l.same PT.gh).dp, .tup (SqT.of upd_same) (by rw [anyhow_]; exact .cons (.str _) .nil), shp_lie ok.l ok.c.nm, shp_lie (cs := b.cs) ⟨fun r d e => by cases e⟩ ok.c.nm, _, rfl, ?_⟩
    rw [lie_eqv]
    have stT := stE.trans sT
    generalize upd HE T1 (.tup [.str "anyhow"]) = HT at *

    refine ite2 (fun zl => ?_) (fun _ => ⟨_, rfl, stT, PT.mono (by omega)⟩)
    have zl := of_decide_eq_true zl
    refine ⟨_, rfl, _, p, _, 2, rfl, PT, by omega, by decide, by decide, fun d G2 H2 s2 P2 a2 b2 => ⟨rfl, _, rfl, ?_⟩⟩
    have st2 := stT.trans s2
    have hb3 := hb2.same st2.gg

    refine ite2 (fun _ => ?_) (fun _ => ⟨G2, rfl, st2, P2⟩)
    refine ⟨_, rfl, _, rfl, fun x dx hx hdx ne => ?_⟩
    exact mkT (b := b) P2.gh (SqL.of (P2.gh _ _ hb3.c)) (.inr (by rw [zk]; exact Hd.tupAtB_ok (ex_8 T) _)) (by rw [zl]; show SqT K _ _ [.str (S _)]; have := Hd.tupAtB_ok (ex_9 T) G2; rw [anyhow_] at this; exact this) ok (fun G' H' st' tb _ => q x G' H' (st2.trans st'.some_) ((P2.step st').mono (by omega)) tb) hx hdx ne
  clear st
  rintro σ' H' ⟨G', rfl, st, ps⟩
  refine ⟨fun σ' H' => ∃ G' : Hp, σ' = [some (.ref p), some (.ref a), some (.str (S b.n)), some (.ref c), some (.ref k), some (.ref l)] ∧ Step (some p) G H G' H' ∧ Pq G' H' p (n + 2), ?_, ?_⟩
  · refine ⟨_, rfl, by show 0 ≤ sizeLine; decide, fun E' hE => ?_⟩
    have hbE := hb2.same st.gg
    obtain ⟨sE, PE'⟩ := ps.loc (o := .lst []) hE
    refine ⟨.list (strsD b.ky), .list [], .lst (SqL.of (PE'.gh _ _ hbE.k)) (dp_sV _), .lst (SqL.of upd_same) .nil, shp_strs nmk, shp_strs (xs := []) (fun x h => by cases h), _, rfl, ?_⟩
    rw [eqv_nl]
    have stE := st.trans sE
    generalize upd H' E' (.lst []) = HE at *

    refine ite2 (fun zk => ?_) (fun _ => ⟨G', rfl, stE, PE'.mono (by omega)⟩)
    have zk := of_decide_eq_true zk
    refine ⟨_, rfl, _, p, _, 2, rfl, PE', by omega, by decide, by decide, fun d G2 H2 s2 P2 a2 b2 => ⟨rfl, _, rfl, ?_⟩⟩
    have st2 := stE.trans s2
    have hb3 := hb2.same st2.gg

    refine ite2 (fun _ => ?_) (fun _ => ⟨G2, rfl, st2, P2⟩)
    refine ⟨_, rfl, _, rfl, _, rfl, rfl, rfl, fun x dx hx hdx ne => ?_⟩
    exact mkT (b := b) P2.gh (SqL.of (P2.gh _ _ hb3.c)) (.inr (by rw [zk]; exact Hd.tupAtB_ok (ex_8 T) _)) hb3.l ok (fun G' H' st' tb _ => q x G' H' (st2.trans st'.some_) ((P2.step st').mono (by omega)) tb) hx hdx ne
  clear st ps
  rintro σ' H' ⟨G', rfl, st, ps⟩
  refine ⟨fun σ' H' => ∃ G' : Hp, σ' = [some (.ref p), some (.ref a), some (.str (S b.n)), some (.ref c), some (.ref k), some (.ref l)] ∧ Step (some p) G H G' H' ∧ Pq G' H' p (n + 3), ?_, ?_⟩
  · refine ⟨_, rfl, by show 1 ≤ sizeLine; decide, fun T1 hT => ?_⟩
    have hbT := hb2.same st.gg
    obtain ⟨sT, PT⟩ := ps.loc (o := .tup [.str "anyhow"]) hT
    refine ⟨lieD b.li, lieD .anyhow, (hbT.l.same PT.gh).dp, .tup (SqT.of upd_same) (by rw [anyhow_]; exact .cons (.str _) .nil), shp_lie ok.l ok.c.nm, shp_lie (cs := b.cs) ⟨fun r d e => by cases e⟩ ok.c.nm, _, rfl, ?_⟩
    rw [lie_eqv]
    have stT := st.trans sT
    generalize upd H' T1 (.tup [.str "anyhow"]) = HT at *

    refine ite2 (fun zl => ?_) (fun _ => ⟨_, rfl, stT, PT.mono (by omega)⟩)
    have zl := of_decide_eq_true zl
    refine ⟨_, rfl, _, p, _, 2, rfl, PT, by omega, by decide, by decide, fun d G2 H2 s2 P2 a2 b2 => ⟨rfl, _, rfl, ?_⟩⟩
    have st2 := stT.trans s2
    have hb3 := hb2.same st2.gg

    refine ite2 (fun _ => ?_) (fun _ => ⟨G2, rfl, st2, P2⟩)
    refine ⟨_, rfl, _, rfl, _, rfl, rfl, rfl, fun x dx hx hdx ne => ?_⟩
    exact mkT (b := b) P2.gh (SqL.of (P2.gh _ _ hb3.c)) (.inl (SqL.of (P2.gh _ _ hb3.k))) (by rw [zl]; show SqT K _ _ [.str (S _)]; have := Hd.tupAtB_ok (ex_9 T) G2; rw [anyhow_] at this; exact this) ok (fun G' H' st' tb _ => q x G' H' (st2.trans st'.some_) ((P2.step st').mono (by omega)) tb) hx hdx ne
  clear st ps
  rintro σ' H2 ⟨G2, rfl, st2, P2⟩
  have hb3 := hb2.same st2.gg
  refine ⟨_, rfl, _, rfl, _, rfl, _, rfl, rfl, rfl, fun x dx hx hdx ne => ?_⟩
  exact mkT (b := b) P2.gh (SqL.of (P2.gh _ _ hb3.c)) (.inl (SqL.of (P2.gh _ _ hb3.k))) hb3.l ok (fun G' H' st' tb _ => q x G' H' (st2.trans st'.some_) ((P2.step st').mono (by omega)) tb) hx hdx ne
abbrev N_Lkeyed : List Str := ["_law_table", "_law_asked"]
theorem sc_Lkeyed : FnScope N_Lkeyed ["_law_table", "_law_asked"] (defScope s_Lkeyed) := ⟨rfl, rfl, rfl, by decide +kernel, rfl, by decide +kernel, by decide +kernel⟩
theorem c_Lkeyed (T : Tx K mg) : C8.Cal P w K mg base 8 "_law_keyed" (spKeyed K (CTb K)) [] := by
  obtain ⟨fd, F⟩ := f_Lkeyed T
  have tr_with_key := tr_with_key (P := P) (w := w) (base := base) T
  refine mkCal F (g_law_keyed T) (F.bindsN fun _ _ _ _ _ _ us hl => match us, hl with | [_, _], _ => rfl) .nil sc_Lkeyed (fun vs H Q E h => ?_) (fun cdv A outer s H vs Q E hr h => ?_)
  · obtain ⟨G, x, l, b, ks, rfl, _⟩ := h
    rfl
  obtain ⟨G, x, l, b, ks, rfl, hG, hx, ok, hl, hs, h3, q⟩ := h
  refine ⟨_, (pss_cons (ps_if (pt_cmpR (op_eqD hr.units) (pv 1) (pe_lst pa_nil) (nomark _)) (pss_one (ps_ret (pe_mtr0 tr_with_key hr (by first | decide | omega) (pv 0)))) pss_nil)
    (pss_cons (ps_if (pt_cmpR op_eq (pe_callB (call_len_seqK (K := K) rfl) (by rfl) (z_len T) boot_len (pa_cons (pv 1) pa_nil)) pe_int (nomark _)) (pss_one (ps_ret (pe_mtr tr_with_key hr (by first | decide | omega) (pv 0) (pa_cons (pe_ix (ix_listK (K := K) rfl) (pv 1) pe_int (fun _ _ => rfl)) pa_nil)))) pss_nil)
    (pss_cons (ps_if (pt_cmpR op_eq (pe_callB (call_len_seqK (K := K) rfl) (by rfl) (z_len T) boot_len (pa_cons (pv 1) pa_nil)) pe_int (nomark _)) (pss_one (ps_ret (pe_mtr tr_with_key hr (by first | decide | omega) (pv 0) (pa_cons (pe_ix (ix_listK (K := K) rfl) (pv 1) pe_int (fun _ _ => rfl)) (pa_cons (pe_ix (ix_listK (K := K) rfl) (pv 1) pe_int (fun _ _ => rfl)) pa_nil))))) pss_nil)
    (pss_one (ps_ret (pe_mtr tr_with_key hr (by first | decide | omega) (pv 0) (pa_cons (pe_ix (ix_listK (K := K) rfl) (pv 1) pe_int (fun _ _ => rfl)) (pa_cons (pe_ix (ix_listK (K := K) rfl) (pv 1) pe_int (fun _ _ => rfl)) (pa_cons (pe_ix (ix_listK (K := K) rfl) (pv 1) pe_int (fun _ _ => rfl)) pa_nil))))))))), ?_⟩
  have C0 := cls_Table_ T
  obtain ⟨dx, c, k, l0, h1, h2⟩ := hx.ex
  have hx1 := hG _ _ h1
  have nk := (tbf_wl (n := b.n) (c := c) (k := k) (l := l0) (t := txtB b)).2
  refine ⟨_, rfl, by show 0 ≤ sizeLine; decide, fun E' hE => ?_⟩
  have s1 := (Step.refl (p := none) hG).loc (o := .lst []) hE (hG.free hE)
  have hE1 : upd H E' (.lst []) E' = some (.lst []) := upd_same
  generalize upd H E' (.lst []) = H1 at *
  have hx2 := s1.gh _ _ h1
  have hl2 := s1.gh _ _ hl
  have nm : ∀ k ∈ ks, Nm k := fun k hk => ok.c.nm k (hs.mem k hk)
  refine ⟨.list (strsD ks), .list [], .lst (SqL.of hl2) (dp_sV ks), .lst (SqL.of hE1) .nil, shp_strs nm, shp_strs (xs := []) (fun x h => by cases h), _, rfl, ?_⟩
  rw [eqv_nl]
  have fin : ∀ (G' H' : Hp) (x' : Addr), Step none G H1 G' H' → TbAt K (CTb K) G' x' { b with ky := ks } → Q (.ref x') H' := fun G' H' x' st tb => q G' H' x' (s1.trans st) tb
  match ks, hs, h3, hl2, fin with
  | [], hs, h3, hl2, fin =>
    exact iteT ⟨_, rfl, x, dx, _, rfl, hx2, nk, wkr (ks := []) s1.gh hx ok hs h3 fin⟩
  | [k1], hs, h3, hl2, fin =>
    refine ite2 (fun z => absurd (of_decide_eq_true z) (by simp)) (fun _ => ?_)
    refine ⟨_, rfl, l, _, rfl, .inl (SqL.of hl2), rfl, _, rfl, ite2 (fun _ => ?_) (fun z => absurd (decide_eq_true rfl) z)⟩
    exact ⟨_, rfl, x, dx, _, rfl, hx2, nk, _, rfl, l, _, 0, _, rfl, rfl, SqL.of hl2, rfl, wkr (ks := [k1]) s1.gh hx ok hs h3 fin⟩
  | [k1, k2], hs, h3, hl2, fin =>
    refine ite2 (fun z => absurd (of_decide_eq_true z) (by simp)) (fun _ => ?_)
    refine ⟨_, rfl, l, _, rfl, .inl (SqL.of hl2), rfl, _, rfl, ite2 (fun z => absurd (V.int.inj (of_decide_eq_true z)) (by show ¬ ((2 : Nat) : Int) = 1; decide)) (fun _ => ?_)⟩
    refine ⟨_, rfl, l, _, rfl, .inl (SqL.of hl2), rfl, _, rfl, ite2 (fun _ => ?_) (fun z => absurd (decide_eq_true rfl) z)⟩
    exact ⟨_, rfl, x, dx, _, rfl, hx2, nk, _, rfl, l, _, 0, _, rfl, rfl, SqL.of hl2, rfl, _, rfl, l, _, 1, _, rfl, rfl, SqL.of hl2, rfl, wkr (ks := [k1, k2]) s1.gh hx ok hs h3 fin⟩
  | [k1, k2, k3], hs, h3, hl2, fin =>
    refine ite2 (fun z => absurd (of_decide_eq_true z) (by simp)) (fun _ => ?_)
    refine ⟨_, rfl, l, _, rfl, .inl (SqL.of hl2), rfl, _, rfl, ite2 (fun z => absurd (V.int.inj (of_decide_eq_true z)) (by show ¬ ((3 : Nat) : Int) = 1; decide)) (fun _ => ?_)⟩
    refine ⟨_, rfl, l, _, rfl, .inl (SqL.of hl2), rfl, _, rfl, ite2 (fun z => absurd (V.int.inj (of_decide_eq_true z)) (by show ¬ ((3 : Nat) : Int) = 2; decide)) (fun _ => ?_)⟩
    exact ⟨_, rfl, x, dx, _, rfl, hx2, nk, _, rfl, l, _, 0, _, rfl, rfl, SqL.of hl2, rfl, _, rfl, l, _, 1, _, rfl, rfl, SqL.of hl2, rfl, _, rfl, l, _, 2, _, rfl, rfl, SqL.of hl2, rfl, wkr (ks := [k1, k2, k3]) s1.gh hx ok hs h3 fin⟩
  | k1 :: k2 :: k3 :: k4 :: r, hs, h3, _, _ => exact absurd h3 (by simp)
end Pf
namespace Bs
open PySem PySem.Spec PyProof.Rows L2 SX
variable {P : Program} {w : World} {K : PySem.W.Frag} {mg : Str → Option Value} {base : Heap}
/-! what repr asks of a bare table -/
theorem nodict_strs : ∀ xs : List (List Nat), PyData.hasDictAll (strsD xs) = false ∧ PyData.showableAll (strsD xs) = true ∧ PyData.intsShortAll 13 (strsD xs) = true
  | [] => ⟨by simp [strsD, PyData.hasDictAll], by simp [strsD, PyData.showableAll], by simp [strsD, PyData.intsShortAll]⟩
  | x :: r => by
    obtain ⟨h1, h2, h3⟩ := nodict_strs r
    unfold strsD at h1 h2 h3 ⊢
    exact ⟨by simp [PyData.hasDictAll, PyData.hasDict, h1], by simp [PyData.showableAll, PyData.showable, h2], by simp [PyData.intsShortAll, PyData.intsShort, h3]⟩
theorem wt_strs : ∀ {xs : List (List Nat)}, (∀ x ∈ xs, Nm x) → PyData.weightAll (strsD xs) ≤ 9 * xs.length
  | [], _ => by simp [strsD, PyData.weightAll]
  | x :: r, h => by
    have h1 := wt_strs fun z hz => h z (List.mem_cons_of_mem _ hz)
    have h2 := (h x List.mem_cons_self).len
    have e : (S x).cps.size = x.length := by simp [S]
    unfold strsD at h1 ⊢
    simp only [List.map_cons, PyData.weightAll, PyData.weight, e, List.length_cons]
    omega
theorem lie_more {cs : List (List Nat)} {l : Lie} (h : OkL cs l) (hc : ∀ c ∈ cs, Nm c) : (lieD l).hasDict = false ∧ (lieD l).showable = true ∧ (lieD l).intsShort 13 = true ∧ (lieD l).weight ≤ 60 := by
  have h8 := Ok.hd8 l
  have e8 : ∀ x : List Nat, (S x).cps.size = x.length := fun x => by simp [S]
  cases l with
  | dealt r ds =>
    obtain ⟨h1, h2, h3, h4⟩ := h.d r ds rfl
    obtain ⟨d1, d2, d3⟩ := nodict_strs ds
    have w1 := wt_strs fun z hz => hc z (h2.mem z hz)
    have w2 := h1.len
    refine ⟨by simp [lieD, PyData.hasDict, PyData.hasDictAll, d1], by simp [lieD, PyData.showable, PyData.showableAll, d2], by simp [lieD, PyData.intsShort, PyData.intsShortAll, d3], ?_⟩
    show PyData.weightAll _ ≤ 60
    simp only [PyData.weightAll, PyData.weight, e8]
    show 5 + 1 + (r.length + 1 + (PyData.weightAll (strsD ds) + 1 + 0)) ≤ 60
    omega
  | _ =>
    refine ⟨by simp [lieD, PyData.hasDict, PyData.hasDictAll], by simp [lieD, PyData.showable, PyData.showableAll], by simp [lieD, PyData.intsShort, PyData.intsShortAll], ?_⟩
    show PyData.weightAll [PyData.str (S _)] ≤ 60
    simp only [PyData.weightAll, PyData.weight, e8]
    omega
theorem br_repr {b : Br} (h : Ok b) : isDisplay (brD b) = true ∧ (brD b).showable = true ∧ (brD b).hasDict = false ∧ (brD b).depth ≤ 60 ∧ (brD b).shown.length ≤ sizeLine := by
  obtain ⟨l1, l2⟩ := lay_lie h.l h.c.nm
  obtain ⟨m1, m2, m3, m4⟩ := lie_more h.l h.c.nm
  obtain ⟨c1, c2⟩ := lay_strs h.c.nm
  obtain ⟨k1, k2⟩ := lay_strs fun z hz => h.c.nm z (h.k.mem z hz)
  obtain ⟨c3, c4, c5⟩ := nodict_strs b.cs
  obtain ⟨k3, k4, k5⟩ := nodict_strs b.ky
  have c6 := wt_strs h.c.nm
  have k6 := wt_strs fun z hz => h.c.nm z (h.k.mem z hz)
  have n6 := h.n.len
  have c8 := h.c.hi
  have k8 := h.ky8
  have e8 : (S b.n).cps.size = b.n.length := by simp [S]
  have hd : (brD b).depth ≤ 4 := by
    simp only [brD, PyData.depth, PyData.depthAll, c2, k2]
    omega
  refine ⟨rfl, by simp [brD, PyData.showable, PyData.showableAll, m2, c4, k4], by simp [brD, PyData.hasDict, PyData.hasDictAll, m1, c3, k3], by omega, ?_⟩
  refine PyData.shown_fits_of_layable0 (B := 13) (by decide) (by decide) ?_ (by simp [brD, PyData.intsShort, PyData.intsShortAll, m3, c5, k5])
  have e : (2 : Nat) ^ 20 = 1048576 := by decide
  unfold PyData.layable0
  rw [show (brD b).canLay0 = true by simp [brD, PyData.canLay0, PyData.canLayAll0, h.n.ok, c1, k1, l1]]
  simp only [Bool.true_and, Bool.and_eq_true, decide_eq_true_eq]
  refine ⟨by omega, ?_⟩
  show PyData.weightAll _ ≤ _
  simp only [PyData.weightAll, PyData.weight, e8]
  omega
theorem BrAt.dp {H : Hp} {n : List Nat} {x c k l : Addr} {b : Br} (hx : H x = some (.lst [.str (S b.n), .ref c, .ref k, .ref l])) (h : BrAt K H c k l b) : Dp K H (.ref x) (brD b) :=
  .lst (SqL.of hx) (.cons (.str _) (.cons (.lst (SqL.of h.c) (dp_sV _)) (.cons (.lst (SqL.of h.k) (dp_sV _)) (.cons h.l.dp .nil))))
theorem shp_br {b : Br} (h : Ok b) : SeqAt.shaped (brD b) = true := by
  obtain ⟨l1, l2⟩ := lay_lie h.l h.c.nm
  obtain ⟨c1, c2⟩ := lay_strs h.c.nm
  obtain ⟨k1, k2⟩ := lay_strs fun z hz => h.c.nm z (h.k.mem z hz)
  unfold SeqAt.shaped
  rw [show (brD b).canLay0 = true by simp [brD, PyData.canLay0, PyData.canLayAll0, h.n.ok, c1, k1, l1], Bool.true_and, decide_eq_true_eq]
  simp only [brD, PyData.depth, PyData.depthAll, c2, k2]
  omega
end Bs
namespace Pf
open PySem PySem.Spec PyProof.Rows L2 Bs SX
variable {P : Program} {w : World} {K : PySem.W.Frag} {mg : Str → Option Value} {base : Heap}
abbrev N_Lrow_of : List Str := ["_law_bare_here", "_law_words", "_law_name", "_law_columns", "_law_asked", "_law_lie_here"]
theorem sc_Lrow_of : FnScope N_Lrow_of ["_law_bare_here"] (defScope s_Lrow_of) := ⟨rfl, rfl, rfl, by decide +kernel, rfl, by decide +kernel, by decide +kernel⟩
theorem c_Lrow_of (T : Tx K mg) : C8.Cal P w K mg base 1 "_law_row_of" (spRowN K) [] := by
  obtain ⟨fd, F⟩ := f_Lrow_of T
  refine mkCal F (g_law_row_of T) (F.bindsN fun _ _ _ _ _ _ us hl => match us, hl with | [_], _ => rfl) .nil sc_Lrow_of (fun vs H Q E h => ?_) (fun cdv A outer s H vs Q E hr h => ?_)
  · obtain ⟨G, a, b, rfl, _⟩ := h
    rfl
  obtain ⟨G, a, b, rfl, hG, hb, ok, q⟩ := h
  obtain ⟨c, k, l, hb1, hb⟩ := hb.ex
  have nmk : ∀ x ∈ b.ky, Nm x := fun x hx => ok.c.nm x (ok.k.mem x hx)
  refine ⟨_, (pss_cons (ps_asg (pv 0) (pg_unl rfl (pgs_cons (pg_name (i := 2) sc_Lrow_of.nd rfl (Or.inl rfl)) (pgs_cons (pg_name (i := 3) sc_Lrow_of.nd rfl (Or.inl rfl)) (pgs_cons (pg_name (i := 4) sc_Lrow_of.nd rfl (Or.inl rfl)) (pgs_cons (pg_name (i := 5) sc_Lrow_of.nd rfl (Or.inl rfl)) pgs_nil))))))
    (pss_cons (ps_set (i := 1) sc_Lrow_of.nd rfl (Or.inl rfl) (pe_op op_cat (pe_lst (pa_cons pe_str (pa_cons (pv 2) pa_nil))) (pv 3)))
    (C8.pss_cut (ps_if (pt_cmpR (op_neD hr.units) (pv 4) (pe_lst pa_nil) (nomark _)) (pss_one (ps_set (i := 1) sc_Lrow_of.nd rfl (Or.inl rfl) (pe_op op_cat (pe_op op_cat (pv 1) (pe_lst (pa_cons pe_str pa_nil))) (pv 4)))) pss_nil)
    (pss_cons (ps_expr (pe_bm PySem.F.plainAttrs_list PySem.F.slot_list_append PySem.F.type_list_append mt_append (pv 1) (pa_cons (pe_ix (ix_tupK (K := K) rfl) (pv 5) pe_int (fun _ _ => rfl)) pa_nil)))
    (C8.pss_cut (ps_if (pt_cmpR op_eq (pe_ix (ix_tupK (K := K) rfl) (pv 5) pe_int (fun _ _ => rfl)) pe_str (nomark _)) (pss_one (ps_set (i := 1) sc_Lrow_of.nd rfl (Or.inl rfl) (pe_op op_cat (pe_op op_cat (pv 1) (pe_lst (pa_cons (pe_ix (ix_tupK (K := K) rfl) (pv 5) pe_int (fun _ _ => rfl)) pa_nil))) (pe_callTy call_list_of (by rfl) (z_list T) boot_list (pa_cons (pe_ix (ix_tupK (K := K) rfl) (pv 5) pe_int (fun _ _ => rfl)) pa_nil))))) pss_nil)
    (pss_one (ps_ret (pe_join pe_str (pv 1))))))))), ?_⟩
  refine ⟨_, rfl, a, _, rfl, SqL.of (hG _ _ hb1), rfl, _, _, rfl, _, _, rfl, _, _, rfl, _, _, rfl, rfl, ?_⟩
  have sl : sizeLine = 16777216 := rfl
  have c8 := ok.c.hi
  have k8 := ok.ky8
  have t4 := ok.tl8
  have kp := kyP_len b.ky
  refine ⟨_, rfl, by show 2 ≤ sizeLine; decide, fun D0 h0 => ?_⟩
  have g0 := hG.free h0
  have s0 := (Step.refl (p := none) hG).loc (o := .lst [.str "table", .str (S b.n)]) h0 g0
  have hd0 : upd H D0 (.lst [.str "table", .str (S b.n)]) D0 = some (.lst [.str "table", .str (S b.n)]) := upd_same
  generalize upd H D0 (.lst [.str "table", .str (S b.n)]) = H0 at *
  refine ⟨_, rfl, D0, c, _, _, rfl, rfl, hd0, s0.gh _ _ hb.c, by rw [sV_len]; show 2 + _ ≤ _; omega, fun W hW => ?_⟩
  have e1 : [V.str "table", V.str (S b.n)] ++ sV b.cs = sV (tbW :: b.n :: b.cs) := by rw [table_]; rfl
  rw [e1]
  have hWH := s0.free hW
  have gW := s0.gh.free hW
  have s1 := s0.loc (o := .lst (sV (tbW :: b.n :: b.cs))) hWH gW
  have hW1 : upd H0 W (.lst (sV (tbW :: b.n :: b.cs))) W = some (.lst (sV (tbW :: b.n :: b.cs))) := upd_same
  generalize upd H0 W (.lst (sV (tbW :: b.n :: b.cs))) = H1 at *
  clear s0 hd0 e1
  refine ⟨fun σ' H' => ∃ W, σ' = [some (.ref a), some (.ref W), some (.str (S b.n)), some (.ref c), some (.ref k), some (.ref l)] ∧ Step none G H G H' ∧ H W = none ∧ G W = none ∧ H' W = some (.lst (sV ((tbW :: b.n :: b.cs) ++ kyP b.ky))), ?_, ?_⟩
  · refine ⟨_, rfl, by show 0 ≤ sizeLine; decide, fun E' hE => ?_⟩
    have sE := s1.loc (o := .lst []) (s1.free hE) (s1.gh.free hE)
    have hWE : upd H1 E' (.lst []) W = some (.lst (sV (tbW :: b.n :: b.cs))) := by rw [upd_ne (ne_of_none hW1 hE)]; exact hW1
    refine ⟨.list (strsD b.ky), .list [], .lst (SqL.of (sE.gh _ _ hb.k)) (dp_sV _), .lst (SqL.of upd_same) .nil, shp_strs nmk, shp_strs (xs := []) (fun x h => by cases h), _, rfl, ?_⟩
    rw [eqv_nl]
    clear s1 hW1
    generalize upd H1 E' (.lst []) = HE at *
    refine ite2 (fun z => ?_) (fun z => ?_)
    · have hky : b.ky ≠ [] := fun e => by rw [e] at z; simp at z
      refine ⟨_, rfl, by show 1 ≤ sizeLine; decide, fun D2 h2 => ?_⟩
      have s2 := sE.loc (o := .lst [.str "key"]) (sE.free h2) (sE.gh.free h2)
      refine ⟨W, D2, _, _, rfl, rfl, by rw [upd_ne (ne_of_none hWE h2)]; exact hWE, upd_same, by rw [sV_len]; show (b.cs.length + 1 + 1) + 1 ≤ _; omega, fun D3 h3 => ?_⟩
      have e3 : sV (tbW :: b.n :: b.cs) ++ [V.str "key"] = sV ((tbW :: b.n :: b.cs) ++ [kyW]) := by rw [key_]; exact sV_app (tbW :: b.n :: b.cs) [kyW]
      rw [e3]
      have s3 := s2.loc (o := .lst (sV ((tbW :: b.n :: b.cs) ++ [kyW]))) (s2.free h3) (s2.gh.free h3)
      refine ⟨_, rfl, D3, k, _, _, rfl, rfl, upd_same, s3.gh _ _ hb.k, by rw [sV_len, sV_len, List.length_append]; show (b.cs.length + 1 + 1) + 1 + _ ≤ _; omega, fun D4 h4 => ?_⟩
      have e4 : sV ((tbW :: b.n :: b.cs) ++ [kyW]) ++ sV b.ky = sV ((tbW :: b.n :: b.cs) ++ kyP b.ky) := by
        rw [sV_app, List.append_assoc]
        unfold kyP
        rw [if_neg hky]
        rfl
      rw [e4]
      exact ⟨D4, rfl, s3.loc (s3.free h4) (s3.gh.free h4), s3.free h4, s3.gh.free h4, upd_same⟩
    · have hky : b.ky = [] := by
        cases e : b.ky with
        | nil => rfl
        | cons x r => rw [e] at z; exact absurd (by simp) z
      refine ⟨W, rfl, sE, hWH, gW, ?_⟩
      have e5 : kyP b.ky = [] := by unfold kyP; rw [if_pos hky]
      rw [e5, List.append_nil]
      exact hWE
  clear hWH gW hW1 hW s1
  rintro σ' H2 ⟨W, rfl, s2, hWH, gW, hW2⟩
  obtain ⟨lr, hlr⟩ := hb.l.hd
  refine ⟨_, rfl, .inl ⟨rfl, _, SqL.of hW2⟩, _, rfl, l, _, 0, _, rfl, rfl, sqT_same hlr s2.gh, atI_nat (j := 0) rfl, W, _, _, rfl, rfl, hW2, by rw [sV_len, List.length_append]; show (b.cs.length + 1 + 1) + _ < _; omega, ?_⟩
  have e6 : sV ((tbW :: b.n :: b.cs) ++ kyP b.ky) ++ [V.str (S b.li.hd)] = sV (((tbW :: b.n :: b.cs) ++ kyP b.ky) ++ [b.li.hd]) := sV_app _ [b.li.hd]
  rw [e6]
  have s3 := s2.loc (o := .lst (sV (((tbW :: b.n :: b.cs) ++ kyP b.ky) ++ [b.li.hd]))) hWH gW
  have hW3 : upd H2 W (.lst (sV (((tbW :: b.n :: b.cs) ++ kyP b.ky) ++ [b.li.hd]))) W = some (.lst (sV (((tbW :: b.n :: b.cs) ++ kyP b.ky) ++ [b.li.hd]))) := upd_same
  generalize upd H2 W (.lst (sV (((tbW :: b.n :: b.cs) ++ kyP b.ky) ++ [b.li.hd]))) = H3 at *
  clear hW2 s2 e6
  have ew : words b = (((tbW :: b.n :: b.cs) ++ kyP b.ky) ++ [b.li.hd]) ++ b.li.tl := by
    unfold words Bs.rest
    show tbW :: b.n :: (b.cs ++ (kyP b.ky ++ b.li.hd :: b.li.tl)) = _
    simp [List.append_assoc]
  refine ⟨fun σ' H' => ∃ W, σ' = [some (.ref a), some (.ref W), some (.str (S b.n)), some (.ref c), some (.ref k), some (.ref l)] ∧ Step none G H G H' ∧ H' W = some (.lst (sV (words b))), ?_, ?_⟩
  · refine ⟨_, rfl, l, _, 0, _, rfl, rfl, sqT_same hlr s3.gh, atI_nat (j := 0) rfl, rfl, _, rfl, ?_⟩
    have hbl := hb.l
    revert hbl hW3 ew t4
    cases b.li with
    | dealt r ds =>
      intro t4 hW3 ew hbl
      have ed : (Lie.dealt r ds).hd = [100, 101, 97, 108, 116] := rfl
      obtain ⟨d, h1, h2⟩ := hbl
      refine ite2 (fun _ => ?_) (fun z => absurd (decide_eq_true (by rw [dealt_, ed])) z)
      have d3 : ds.length + 1 ≤ 4 := t4
      refine ⟨_, rfl, _, rfl, l, _, 1, _, rfl, rfl, sqT_same h1 s3.gh, atI_nat (j := 1) rfl, by show 1 ≤ sizeLine; decide, fun D5 h5 => ?_⟩
      have s5 := s3.loc (o := .lst [.str (S r)]) (s3.free h5) (s3.gh.free h5)
      refine ⟨W, D5, _, _, rfl, rfl, by rw [upd_ne (ne_of_none hW3 h5)]; exact hW3, upd_same, by rw [sV_len, List.length_append, List.length_append]; show (b.cs.length + 1 + 1) + _ + 1 + 1 ≤ _; omega, fun D6 h6 => ?_⟩
      have s6 := s5.loc (o := .lst (sV (((tbW :: b.n :: b.cs) ++ kyP b.ky) ++ [(Lie.dealt r ds).hd]) ++ [V.str (S r)])) (s5.free h6) (s5.gh.free h6)
      refine ⟨_, rfl, l, _, 2, _, rfl, rfl, sqT_same h1 s6.gh, atI_nat (j := 2) rfl, d, _, rfl, .inr (sqT_same h2 s6.gh), fun D7 h7 => ?_⟩
      have s7 := s6.loc (o := .lst (sV ds)) (s6.free h7) (s6.gh.free h7)
      refine ⟨D6, D7, _, _, rfl, rfl, by rw [upd_ne (ne_of_none upd_same h7)]; exact upd_same, upd_same, by rw [List.length_append, sV_len, sV_len, List.length_append, List.length_append]; show (b.cs.length + 1 + 1) + _ + 1 + 1 + _ ≤ _; omega, fun D8 h8 => ?_⟩
      refine ⟨D8, rfl, s7.loc (s7.free h8) (s7.gh.free h8), ?_⟩
      rw [upd_same, ew]
      refine congrArg (fun z => some (HO.lst z)) ?_
      rw [List.append_assoc]
      exact sV_app _ (r :: ds)
    | _ =>
      intro t4 hW3 ew _
      refine ite2 (fun z => absurd (V.str.inj (of_decide_eq_true z)) (by decide +kernel)) (fun _ => ⟨W, rfl, s3, ?_⟩)
      rw [ew]
      exact hW3.trans (by rw [show Lie.tl _ = [] from rfl, List.append_nil])
  rintro σ' H4 ⟨W, rfl, s4, hW4⟩
  have w8 := sum8 ok.w8
  have wn := ok.wn
  refine ⟨⟨_, rfl⟩, _, rfl, " ", W, (words b).map S, rfl, rfl, .inl (SqL.of hW4), ?_, ?_⟩
  · have l1 : (" " : Str).length = 1 := by decide +kernel
    rw [l1, List.length_map]
    omega
  · rw [sp_, join_S]
    exact q H4 s4
abbrev N_Lis : List Str := ["_law_table", "_law_bare_here", "_law_told"]
theorem sc_Lis : FnScope N_Lis ["_law_table", "_law_bare_here"] (defScope s_Lis) := ⟨rfl, rfl, rfl, by decide +kernel, rfl, by decide +kernel, by decide +kernel⟩
theorem cG_Lis (T : Tx K mg) : Gd.CalG P w K mg base 4 "_law_is" (spIsT K (CTb K)) [] := by
  obtain ⟨fd, F⟩ := f_Lis T
  have c_Lrow_of := c_Lrow_of (P := P) (w := w) (base := base) T
  refine ⟨_, fd, ["_law_table", "_law_bare_here"], [], ?_, g_law_is T, F.kp, F.bindsN fun _ _ _ _ _ _ us hl => match us, hl with | [_, _], _ => rfl, .nil⟩
  refine Gd.mkG (k := 3) F sc_Lis (fun vs H Q E h => ?_) (fun cdv A outer s H vs Q E un hr h => ?_)
  · obtain ⟨G, x, a, b, rfl, _⟩ := h
    rfl
  obtain ⟨G, x, a, b, rfl, hG, hx, hb, ok, q⟩ := h
  refine ⟨_, (pss_cons (ps_set (i := 2) sc_Lis.nd rfl (Or.inl rfl) (pe_lst (pa_cons (pe_fldK (K := K) rfl (pv 0) (by rfl)) (pa_cons (pe_fldK (K := K) rfl (pv 0) (by rfl)) (pa_cons (pe_fldK (K := K) rfl (pv 0) (by rfl)) (pa_cons (pe_fldK (K := K) rfl (pv 0) (by rfl)) pa_nil))))))
    (pss_one (ps_ret (pe_and (pe_cmpR op_eq (pe_callB (Gd.call_reprD (K := K) rfl un hr.units) (by rfl) (z_repr T) boot_repr (pa_cons (pv 2) pa_nil)) (pe_callB (Gd.call_reprD (K := K) rfl un hr.units) (by rfl) (z_repr T) boot_repr (pa_cons (pv 1) pa_nil)) (nomark _)) (pe_one (pe_cmpR op_eq (pe_callTy (call_strO (own_str_Table T rfl rfl rfl rfl rfl) (hr.mono (by omega))) (by rfl) (z_str T) boot_str (pa_cons (pv 0) pa_nil)) (C8.pe_c c_Lrow_of hr (by first | decide | omega) rfl (pa_cons (pv 1) pa_nil)) (nomark _))))))), ?_⟩
  have C0 := cls_Table_ T
  obtain ⟨dx, c, k, l, e1, e2⟩ := hx.ex
  obtain ⟨c', k', l', f1, f2⟩ := hb.ex
  have hf := tf_fl (n := b.n) (c := c) (k := k) (l := l) (t := txtB b)
  have hx1 := hG _ _ e1
  refine ⟨_, rfl, x, CTb K, dx, _, _, rfl, hx1, C0, noat_Table_name T, hf.n, _, rfl, x, CTb K, dx, _, _, rfl, hx1, C0, noat_Table_columns T, hf.c, _, rfl, x, CTb K, dx, _, _, rfl, hx1, C0, noat_Table_key T, hf.k, _, rfl, x, CTb K, dx, _, _, rfl, hx1, C0, noat_Table_lies T, hf.l, by show 4 ≤ sizeLine; decide, fun L hL => ?_⟩
  have s1 := (Step.refl (p := none) hG).loc (o := .lst [.str (S b.n), .ref c, .ref k, .ref l]) hL (hG.free hL)
  have hL1 : upd H L (.lst [.str (S b.n), .ref c, .ref k, .ref l]) L = some (.lst [.str (S b.n), .ref c, .ref k, .ref l]) := upd_same
  generalize upd H L (.lst [.str (S b.n), .ref c, .ref k, .ref l]) = H1 at *
  obtain ⟨r1, r2, r3, r4, r5⟩ := br_repr ok
  refine ⟨_, rfl, _, _, rfl, BrAt.dp (n := b.n) hL1 (e2.same s1.gh), r1, r2, r3, r4, r5, _, rfl, _, _, rfl, BrAt.dp (n := b.n) (s1.gh _ _ f1) (f2.same s1.gh), r1, r2, r3, r4, r5, rfl, _, rfl, ?_⟩
  refine ite2 (fun _ => ?_) (fun z => absurd (decide_eq_true rfl) z)
  refine ⟨_, rfl, x, dx, _, _, rfl, s1.gh _ _ e1, ⟨G, b, s1.gh, hx, rfl⟩, _, rfl, G, a, b, rfl, s1.gh, hb, ok, fun H2 s2 => ⟨rfl, ?_⟩⟩
  rw [decide_eq_true rfl]
  exact q H2 (s1.trans s2)
end Pf
namespace Bs
open PySem PySem.Spec PyProof.Rows L2 SX
theorem sV_rev (xs : List (List Nat)) : (sV xs).reverse = sV xs.reverse := by
  show ((xs.map S).map V.str).reverse = (xs.reverse.map S).map V.str
  rw [List.map_reverse, List.map_reverse]
end Bs
namespace Pf
open PySem PySem.Spec PyProof.Rows L2 Bs SX
variable {P : Program} {w : World} {K : PySem.W.Frag} {mg : Str → Option Value} {base : Heap}
abbrev N_Lother : List Str := ["_law_pen_here", "_law_bare_here", "_law_way", "_law_name", "_law_columns", "_law_asked", "_law_lie_here"]
theorem sc_Lother : FnScope N_Lother ["_law_pen_here", "_law_bare_here"] (defScope s_Lother) := ⟨rfl, rfl, rfl, by decide +kernel, rfl, by decide +kernel, by decide +kernel⟩
theorem c_Lother (T : Tx K mg) : C8.Cal P w K mg base 4 "_law_other" (spOtherN K) [] := by
  obtain ⟨fd, F⟩ := f_Lother T
  have c_Ldraw := c_Ldraw (P := P) (w := w) (base := base) T
  have c_Lpick := c_Lpick (P := P) (w := w) (base := base) T
  have c_Lsome := c_Lsome (P := P) (w := w) (base := base) T
  have c_Llie := c_Llie (P := P) (w := w) (base := base) T
  refine mkCal F (g_law_other T) (F.bindsN fun _ _ _ _ _ _ us hl => match us, hl with | [_, _], _ => rfl) .nil sc_Lother (fun vs H Q E h => ?_) (fun cdv A outer s H vs Q E hr h => ?_)
  · obtain ⟨G, p, a, n, b, rfl, _⟩ := h
    rfl
  obtain ⟨G, p, a, n, b, rfl, hP, hn, hb, ok, fr, q⟩ := h
  refine ⟨_, (pss_cons (ps_asg (pv 1) (pg_unl rfl (pgs_cons (pg_name (i := 3) sc_Lother.nd rfl (Or.inl rfl)) (pgs_cons (pg_name (i := 4) sc_Lother.nd rfl (Or.inl rfl)) (pgs_cons (pg_name (i := 5) sc_Lother.nd rfl (Or.inl rfl)) (pgs_cons (pg_name (i := 6) sc_Lother.nd rfl (Or.inl rfl)) pgs_nil))))))
    (pss_cons (ps_set (i := 2) sc_Lother.nd rfl (Or.inl rfl) (C8.pe_c c_Ldraw hr (by first | decide | omega) rfl (pa_cons (pv 0) (pa_cons pe_int pa_nil))))
    (C8.pss_cut (ps_if (pt_cmpR op_eq (pv 2) pe_int (nomark _)) (pss_one (ps_set (i := 3) sc_Lother.nd rfl (Or.inl rfl) (C8.pe_c c_Lpick hr (by first | decide | omega) rfl (pa_cons (pv 0) (pa_cons (pe_lst (pa_cons pe_str (pa_cons (pe_op op_add_str (pv 3) pe_str) (pa_cons pe_str pa_nil)))) pa_nil))))) pss_nil)
    (C8.pss_cut (ps_if (PW.pt (pw_and (pt_cmpR op_eq (pv 2) pe_int (nomark _)) (pw_and1 (pt_cmpR op_lt (pe_callB (call_len_seqK (K := K) rfl) (by rfl) (z_len T) boot_len (pa_cons (pv 4) pa_nil)) pe_int (nomark _))))) (pss_one (ps_set (i := 4) sc_Lother.nd rfl (Or.inl rfl) (pe_op op_cat (pv 4) (pe_lst (pa_cons pe_str pa_nil))))) pss_nil)
    (C8.pss_cut (ps_if (pt_cmpR op_eq (pv 2) pe_int (nomark _)) (pss_one (ps_set (i := 4) sc_Lother.nd rfl (Or.inl rfl) (pe_revL (pv 4)))) pss_nil)
    (C8.pss_cut (ps_if (pt_cmpR op_eq (pv 2) pe_int (nomark _)) (pss_one (ps_set (i := 5) sc_Lother.nd rfl (Or.inl rfl) (C8.pe_c c_Lpick hr (by first | decide | omega) rfl (pa_cons (pv 0) (pa_cons (pe_lst (pa_cons (pe_revL (pv 5)) (pa_cons (pe_lst pa_nil) (pa_cons (C8.pe_c c_Lsome hr (by first | decide | omega) rfl (pa_cons (pv 0) (pa_cons (pv 4) (pa_cons pe_int (pa_cons pe_int pa_nil))))) pa_nil)))) pa_nil))))) pss_nil)
    (C8.pss_cut (ps_if (pt_cmpR op_eq (pv 2) pe_int (nomark _)) (pss_one (ps_set (i := 6) sc_Lother.nd rfl (Or.inl rfl) (C8.pe_c c_Llie hr (by first | decide | omega) rfl (pa_cons (pv 0) (pa_cons (pv 4) pa_nil))))) pss_nil)
    (pss_one (ps_ret (pe_lst (pa_cons (pv 3) (pa_cons (pv 4) (pa_cons (pv 5) (pa_cons (pv 6) pa_nil)))))))))))))), ?_⟩
  obtain ⟨c, k, l, hb1, hb2⟩ := hb.ex
  have sl : sizeLine = 16777216 := rfl
  refine ⟨_, rfl, a, _, rfl, SqL.of (hP.gh _ _ hb1), rfl, _, _, rfl, _, _, rfl, _, _, rfl, _, _, rfl, rfl, ?_⟩
  refine ⟨_, rfl, G, p, n, 6, rfl, hP, by omega, by decide, by decide, fun d G1 H1 s1 P1 a1 b1 => ?_⟩
  have bt1 := hb2.same s1.gg
  refine ⟨fun σ' H' => ∃ (G' : Hp) (d : Int) (c k l : Addr) (b' : Br), σ' = [some (.ref p), some (.ref a), some (.int d), some (.str (S b'.n)), some (.ref c), some (.ref k), some (.ref l)] ∧ Step (some p) G H G' H' ∧ Pq G' H' p (n + 2) ∧ BrAt K G' c k l b' ∧ Ok b' ∧ frW ∉ b'.cs, ?_, ?_⟩
  · refine ⟨_, rfl, rfl, _, rfl, ?_⟩
    refine ite2 (fun _ => ?_) (fun _ => ⟨G1, d, c, k, l, b, rfl, s1, P1.mono (by omega), bt1, ok, fr⟩)
    have en : (S b.n ++ ("" : Str)) = S b.n := by rw [em0, S_cat, List.append_nil]
    refine ⟨_, rfl, _, rfl, _, _, rfl, rfl, by rw [S_len]; have := ok.n.len; show b.n.length + 0 ≤ _; omega, by show 3 ≤ sizeLine; decide, fun A hA => ?_⟩
    rw [en]
    have nAp : A ≠ p := fun z => P1.there (by rw [← z]; exact hA)
    obtain ⟨s2, P2⟩ := P1.loc (o := .lst [.str "other", .str (S b.n), .str "a"]) hA
    refine ⟨G1, p, A, _, [.str "other", .str (S b.n), .str "a"], rfl, P2, by omega, upd_same, nAp, by show 0 < 3; decide, by show 3 ≤ 1000; decide, fun v G3 H3 mv s3 P3 => ?_⟩
    obtain ⟨wn, rfl, nn⟩ : ∃ wn, v = .str (S wn) ∧ Nm wn := by
      simp only [List.mem_cons, List.mem_nil_iff, or_false] at mv
      rcases mv with rfl | rfl | rfl
      · exact ⟨[111, 116, 104, 101, 114], by rw [show ("other" : Str) = S [111, 116, 104, 101, 114] by decide +kernel], nm_of (by decide +kernel)⟩
      · exact ⟨b.n, rfl, ok.n⟩
      · exact ⟨[97], by rw [show ("a" : Str) = S [97] by decide +kernel], nm_of (by decide +kernel)⟩
    have bt3 := bt1.same (s2.gg.trans s3.gg)
    exact ⟨G3, d, c, k, l, { b with n := wn }, rfl, (s1.trans s2).trans s3, P3, ⟨bt3.c, bt3.k, bt3.l⟩, ⟨nn, ok.c, ok.k, ok.l⟩, fr⟩
  clear bt1 s1 P1 hb1 hb2
  rintro σ' H' ⟨G', d, c, k, l, b', rfl, st, ps, bt, okb, fr'⟩
  refine ⟨fun σ' H' => ∃ (G' : Hp) (d : Int) (c k l : Addr) (b' : Br), σ' = [some (.ref p), some (.ref a), some (.int d), some (.str (S b'.n)), some (.ref c), some (.ref k), some (.ref l)] ∧ Step (some p) G H G' H' ∧ Pq G' H' p (n + 2) ∧ BrAt K G' c k l b' ∧ Ok b', ?_, ?_⟩
  · refine ⟨_, rfl, rfl, _, rfl, ?_⟩
    refine ite2 (fun _ => ?_) (fun _ => ⟨G', d, c, k, l, b', rfl, st, ps, bt, okb⟩)
    refine ⟨_, rfl, c, _, rfl, .inl (SqL.of (ps.gh _ _ bt.c)), _, _, rfl, rfl, _, rfl, ?_⟩
    refine ite2 (fun z => ?_) (fun _ => ⟨G', d, c, k, l, b', rfl, st, ps, bt, okb⟩)
    have z8 := of_decide_eq_true z
    rw [sV_len] at z8
    refine ⟨_, rfl, by show 1 ≤ sizeLine; decide, fun A hA => ?_⟩
    obtain ⟨s2, P2⟩ := ps.loc (o := .lst [.str "fresh"]) hA
    refine ⟨c, A, _, _, rfl, rfl, P2.gh _ _ bt.c, upd_same, by rw [sV_len]; show _ + 1 ≤ _; omega, fun C hC => ?_⟩
    have e1 : sV b'.cs ++ [V.str "fresh"] = sV (b'.cs ++ [frW]) := by
      rw [show ("fresh" : Str) = S frW by decide +kernel]
      exact sV_app _ [frW]
    rw [e1]
    obtain ⟨s3, P3⟩ := P2.new_ (o := .lst (sV (b'.cs ++ [frW]))) hC
    have bt3 := bt.same (s2.gg.trans s3.gg)
    have nfr : Nm frW := nm_of (by decide +kernel)
    have okc : OkC (b'.cs ++ [frW]) := by
      refine .of (fun x hx => ?_) ?_ (by rw [List.length_append]; have := okb.c.lo; omega) (by rw [List.length_append]; show _ + 1 ≤ 8; omega)
      · rcases List.mem_append.mp hx with h | h
        · exact okb.c.nm x h
        · rw [List.mem_singleton.mp h]; exact nfr
      · refine List.nodup_append.mpr ⟨okb.c.nd, List.nodup_cons.mpr ⟨fun h => (by cases h), List.nodup_nil⟩, fun x hx y hy e => ?_⟩
        rw [List.mem_singleton.mp hy] at e
        exact fr' (e ▸ hx)
    refine ⟨_, d, C, k, l, { b' with cs := b'.cs ++ [frW] }, rfl, (st.trans s2).trans s3, P3, ⟨upd_same, bt3.k, bt3.l⟩, ⟨okb.n, okc, ⟨fun x hx => List.mem_append_left _ (okb.k.mem x hx), okb.k.nd⟩, ⟨fun r ds e => ?_⟩⟩⟩
    obtain ⟨q1, q2, q3, q4⟩ := okb.l.d r ds e
    exact ⟨q1, ⟨fun x hx => List.mem_append_left _ (q2.mem x hx), q2.nd⟩, q3, q4⟩
  clear fr'
  rintro σ' H' ⟨G', d, c, k, l, b', rfl, st, ps, bt, okb⟩
  refine ⟨fun σ' H' => ∃ (G' : Hp) (d : Int) (c k l : Addr) (b' : Br), σ' = [some (.ref p), some (.ref a), some (.int d), some (.str (S b'.n)), some (.ref c), some (.ref k), some (.ref l)] ∧ Step (some p) G H G' H' ∧ Pq G' H' p (n + 2) ∧ BrAt K G' c k l b' ∧ Ok b', ?_, ?_⟩
  · refine ⟨_, rfl, rfl, _, rfl, ?_⟩
    refine ite2 (fun _ => ?_) (fun _ => ⟨G', d, c, k, l, b', rfl, st, ps, bt, okb⟩)
    refine ⟨_, rfl, c, _, rfl, SqL.of (ps.gh _ _ bt.c), fun C hC => ?_⟩
    rw [sV_rev]
    obtain ⟨s3, P3⟩ := ps.new_ (o := .lst (sV b'.cs.reverse)) hC
    have bt3 := bt.same s3.gg
    refine ⟨_, d, C, k, l, { b' with cs := b'.cs.reverse }, rfl, st.trans s3, P3, ⟨upd_same, bt3.k, bt3.l⟩, ⟨okb.n, .of (fun x hx => okb.c.nm x (List.mem_reverse.mp hx)) ((List.reverse_perm _).nodup_iff.mpr okb.c.nd) (by rw [List.length_reverse]; exact okb.c.lo) (by rw [List.length_reverse]; exact okb.c.hi), ⟨fun x hx => List.mem_reverse.mpr (okb.k.mem x hx), okb.k.nd⟩, ⟨fun r ds e => ?_⟩⟩⟩
    obtain ⟨q1, q2, q3, q4⟩ := okb.l.d r ds e
    exact ⟨q1, ⟨fun x hx => List.mem_reverse.mpr (q2.mem x hx), q2.nd⟩, q3, q4⟩
  rintro σ' H' ⟨G', d, c, k, l, b', rfl, st, ps, bt, okb⟩
  refine ⟨fun σ' H' => ∃ (G' : Hp) (d : Int) (c k l : Addr) (b' : Br), σ' = [some (.ref p), some (.ref a), some (.int d), some (.str (S b'.n)), some (.ref c), some (.ref k), some (.ref l)] ∧ Step (some p) G H G' H' ∧ Pq G' H' p (n + 20) ∧ BrAt K G' c k l b' ∧ Ok b', ?_, ?_⟩
  · refine ⟨_, rfl, rfl, _, rfl, ?_⟩
    refine ite2 (fun _ => ?_) (fun _ => ⟨G', d, c, k, l, b', rfl, st, ps.mono (by omega), bt, okb⟩)
    refine ⟨_, rfl, _, rfl, k, _, rfl, SqL.of (ps.gh _ _ bt.k), fun R hR => ?_⟩
    rw [sV_rev]
    obtain ⟨s2, P2⟩ := ps.new_ (o := .lst (sV b'.ky.reverse)) hR
    have gR : upd G' R (.lst (sV b'.ky.reverse)) R = some (.lst (sV b'.ky.reverse)) := upd_same
    generalize upd G' R (.lst (sV b'.ky.reverse)) = G2 at *
    generalize upd H' R (.lst (sV b'.ky.reverse)) = H2 at *
    refine ⟨by show 0 ≤ sizeLine; decide, fun E' hE => ?_⟩
    obtain ⟨s3, P3⟩ := P2.new_ (o := .lst (sV [])) hE
    have gE : upd G2 E' (.lst (sV [])) E' = some (.lst (sV [])) := upd_same
    generalize upd G2 E' (.lst (sV [])) = G3 at *
    generalize eH : upd H2 E' (.lst (sV [])) = H3 at *
    rw [show upd H2 E' (.lst []) = H3 from eH]
    have bt3 := bt.same (s2.gg.trans s3.gg)
    have nck : c ≠ p := fun z => by have e := bt3.c; rw [z, P3.out] at e; cases e
    have lo1 := okb.c.lo
    refine ⟨_, rfl, _, rfl, G3, p, c, _, b'.cs, 1, 8, rfl, P3, by omega, P3.gh _ _ bt3.c, okb.c.nd, okb.c.hi, by decide, by decide, by decide, by omega, fun la ys G4 H4 s4 P4 ga sub lo hi => ?_⟩
    refine ⟨by show 3 ≤ sizeLine; decide, fun B hB => ?_⟩
    have nBp : B ≠ p := fun z => P4.there (by rw [← z]; exact hB)
    obtain ⟨s5, P5⟩ := P4.loc (o := .lst [.ref R, .ref E', .ref la]) hB
    refine ⟨G4, p, B, _, [.ref R, .ref E', .ref la], rfl, P5, by omega, upd_same, nBp, by show 0 < 3; decide, by show 3 ≤ 1000; decide, fun v G6 H6 mv s6 P6 => ?_⟩
    have k6 := s5.gg.trans s6.gg
    obtain ⟨lk, ky, rfl, gk, sk⟩ : ∃ (lk : Addr) (ky : List (List Nat)), v = .ref lk ∧ G6 lk = some (.lst (sV ky)) ∧ Sub ky b'.cs := by
      simp only [List.mem_cons, List.mem_nil_iff, or_false] at mv
      rcases mv with rfl | rfl | rfl
      · exact ⟨R, _, rfl, k6 _ _ (s4.gg _ _ (s3.gg _ _ gR)), ⟨fun x hx => okb.k.mem x (List.mem_reverse.mp hx), (List.reverse_perm _).nodup_iff.mpr okb.k.nd⟩⟩
      · exact ⟨E', [], rfl, k6 _ _ (s4.gg _ _ gE), ⟨fun x h => (by cases h), List.nodup_nil⟩⟩
      · exact ⟨la, ys, rfl, k6 _ _ ga, sub⟩
    have bt6 := (bt3.same s4.gg).same k6
    exact ⟨G6, d, c, lk, l, { b' with ky := ky }, rfl, ((((st.trans s2).trans s3).trans s4).trans s5).trans s6, P6.mono (by omega), ⟨bt6.c, gk, bt6.l⟩, ⟨okb.n, okb.c, sk, okb.l⟩⟩
  rintro σ' H' ⟨G', d, c, k, l, b', rfl, st, ps, bt, okb⟩
  refine ⟨fun σ' H' => ∃ (G' : Hp) (d : Int) (c k l : Addr) (b' : Br), σ' = [some (.ref p), some (.ref a), some (.int d), some (.str (S b'.n)), some (.ref c), some (.ref k), some (.ref l)] ∧ Step (some p) G H G' H' ∧ Pq G' H' p (n + 50) ∧ BrAt K G' c k l b' ∧ Ok b', ?_, ?_⟩
  · refine ⟨_, rfl, rfl, _, rfl, ?_⟩
    refine ite2 (fun _ => ?_) (fun _ => ⟨G', d, c, k, l, b', rfl, st, ps.mono (by omega), bt, okb⟩)
    have nck : c ≠ p := fun z => by have e := bt.c; rw [z, ps.out] at e; cases e
    refine ⟨_, rfl, _, rfl, G', p, c, _, b'.cs, rfl, ps, by omega, ps.gh _ _ bt.c, nck, okb.c, fun al li G2 H2 s2 P2 hla okl => ?_⟩
    have bt2 := bt.same s2.gg
    exact ⟨G2, d, c, k, al, { b' with li := li }, rfl, st.trans s2, P2.mono (by omega), ⟨bt2.c, bt2.k, hla⟩, ⟨okb.n, okb.c, okb.k, okl⟩⟩
  rintro σ' H' ⟨G', d, c, k, l, b', rfl, st, ps, bt, okb⟩
  refine ⟨_, rfl, _, rfl, _, rfl, _, rfl, by show 4 ≤ sizeLine; decide, fun A hA => ?_⟩
  obtain ⟨s2, P2⟩ := ps.new_ (o := .lst [.str (S b'.n), .ref c, .ref k, .ref l]) hA
  exact q A b' _ _ (st.trans s2) P2 ⟨c, k, l, upd_same, bt.same s2.gg⟩ okb
end Pf
namespace Bs
open PySem PySem.Spec PyProof.Rows L2 SX
def spLaw (K : PySem.W.Frag) : Sp := fun vs H Q _ => ∃ (a : Addr) (ns : List Int), vs = [.ref a] ∧ Fz K H a (ns.map V.int) ∧ ns.length ≤ 63 ∧ ∀ H' : Hp, Q (.bl true) H'
theorem mkPre {K : PySem.W.Frag} {C : Addr} {G H : Hp} {ca ka x dx : Addr} {xs ys : List V} (hG : Same G H) (hc : SqL K H ca xs) (hk : Sq K H ka ys) (hx : H x = none) (hdx : H dx = none) (ne : dx ≠ x) :
    Same G (upd (upd H dx (.own x)) x (.ins C dx [])) ∧ G x = none ∧ SqL K (upd (upd H dx (.own x)) x (.ins C dx [])) ca xs ∧ Sq K (upd (upd H dx (.own x)) x (.ins C dx [])) ka ys := by
  have hx1 : upd H dx (.own x) x = none := by rw [upd_ne ne.symm]; exact hx
  have n1 : Same H (upd H dx (.own x)) := Same.new (Same.refl H) hdx
  have n2 : Same (upd H dx (.own x)) (upd (upd H dx (.own x)) x (.ins C dx [])) := Same.new (Same.refl _) hx1
  exact ⟨(hG.trans n1).trans n2, hG.free hx, sqL_same hc (n1.trans n2), hk.same (n1.trans n2)⟩
theorem mkPost {K : PySem.W.Frag} {C : Addr} {G H G' H' : Hp} {x dx c k l : Addr} {b : Br} (hG : Same G H) (hx : H x = none) (hdx : H dx = none) (ne : dx ≠ x) (st : Step (some x) G (upd (upd H dx (.own x)) x (.ins C dx [])) G' H') (gp : G' x = none)
    (hp : H' x = some (.ins C dx (tbf b.n c k l (txtB b)))) (bat : BrAt K G' c k l b) : ∃ G2, Step none G H G2 H' ∧ TbAt K C G2 x b := by
  have s0 : Step none G H G (upd H dx (.own x)) := (Step.refl hG).loc hdx (hG.free hdx)
  have hx1 : upd H dx (.own x) x = none := by rw [upd_ne ne.symm]; exact hx
  have st2 := (s0.trans (Step.absorb hx1 st)).freeze (q := x) hx hp gp
  exact ⟨_, st2, dx, c, k, l, upd_same, bat.same (Same.new (Same.refl G') gp)⟩
end Bs
namespace Pf
open PySem PySem.Spec PyProof.Rows L2 Bs SX
variable {P : Program} {w : World} {K : PySem.W.Frag} {mg : Str → Option Value} {base : Heap}
abbrev N_law : List Str := ["_law_script", "_law_pen_here", "_law_turn", "_law_bare_here", "_law_table", "_law_other_here", "_law_second", "_law_asked", "_law_lie_here", "_law_columns", "_law_held", "_law_third"]
theorem sc_law : FnScope N_law ["_law_script"] (defScope s_law) := ⟨rfl, rfl, rfl, by decide +kernel, rfl, by decide +kernel, by decide +kernel⟩
theorem o_law (T : Tx K mg) {fd : FuncData} (F : FunD K d_law.2.name d_law.2.qual d_law.2.params d_law.2.body d_law.2.scope (d_law.2.dvs K) (d_law.2.kws K) (d_law.1 K) fd) : Gd.FnG P w K mg base 12 (d_law.1 K) fd ["_law_script"] (spLaw K) := by
  have c_Lpen := c_Lpen (P := P) (w := w) (base := base) T
  have c_Lbare := c_Lbare (P := P) (w := w) (base := base) T
  have c_Lmade := c_Lmade (P := P) (w := w) (base := base) T
  have c_Lother := c_Lother (P := P) (w := w) (base := base) T
  have c_Lsome := c_Lsome (P := P) (w := w) (base := base) T
  have c_Llie := c_Llie (P := P) (w := w) (base := base) T
  have c_Lkeyed := c_Lkeyed (P := P) (w := w) (base := base) T
  have cG_Lis := cG_Lis (P := P) (w := w) (base := base) T
  have t_with_lie := t_with_lie (P := P) (w := w) (base := base) T
  have kp_Table_key_lies := kp_Table_key_lies (P := P) (w := w) (base := base) T
  have pe_g_Table : ∀ {X : Cx} {pos : Pos}, X.mg = mg → Gl X "Table" → PE X (.Name "Table" pos) (tC (.ref (CTb K))) := fun h1 h2 => C8.pe_gc h2 ⟨_, by rw [h1]; exact g_Table T, rfl⟩
  refine Gd.mkG (k := 11) F sc_law (fun vs H Q E h => ?_) (fun cdv A outer s H vs Q E un hr h => ?_)
  · obtain ⟨a, ns, rfl, _⟩ := h
    rfl
  obtain ⟨a, ns, rfl, hS, h63, q⟩ := h
  refine ⟨_, (pss_cons (ps_set (i := 1) sc_law.nd rfl (Or.inl rfl) (C8.pe_c c_Lpen hr (by first | decide | omega) rfl (pa_cons (pv 0) pa_nil)))
    (pss_cons (ps_for PassesOwn.never rfl (pi_range1 (by rfl) (z_range T) (pa_cons pe_int pa_nil)) (pg_name (i := 2) sc_law.nd rfl (Or.inl rfl)) (pss_cons (ps_set (i := 3) sc_law.nd rfl (Or.inl rfl) (C8.pe_c c_Lbare hr (by first | decide | omega) rfl (pa_cons (pv 1) pa_nil)))
    (pss_cons (ps_set (i := 4) sc_law.nd rfl (Or.inl rfl) (C8.pe_c c_Lmade hr (by first | decide | omega) rfl (pa_cons (pv 1) (pa_cons (pv 3) pa_nil))))
    (pss_cons (ps_set (i := 5) sc_law.nd rfl (Or.inl rfl) (C8.pe_c c_Lother hr (by first | decide | omega) rfl (pa_cons (pv 1) (pa_cons (pv 3) pa_nil))))
    (pss_cons (ps_set (i := 6) sc_law.nd rfl (Or.inl rfl) (C8.pe_c c_Lmade hr (by first | decide | omega) rfl (pa_cons (pv 1) (pa_cons (pv 5) pa_nil))))
    (pss_cons (ps_if (PW.pt (pw_or (pt_not (pt_val (Gd.pe_cG cG_Lis un hr (by first | decide | omega) rfl (pa_cons (pv 4) (pa_cons (pv 3) pa_nil))))) (pw_or1 (pt_not (pt_val (Gd.pe_cG cG_Lis un hr (by first | decide | omega) rfl (pa_cons (pv 6) (pa_cons (pv 5) pa_nil)))))))) (pss_one (ps_ret pe_bl)) pss_nil)
    (pss_cons (ps_if (PW.pt (pw_or (pt_cmpR op_ne (pe_cmpR (op_eqO (own_eq_Table T rfl rfl rfl rfl rfl) (hr.mono (by omega))) (pv 4) (pv 6) (nomark _)) (pe_cmpR (op_eqD hr.units) (pv 3) (pv 5) (nomark _)) (nomark _)) (pw_or1 (pt_cmpR op_ne (pe_cmpR (op_eqO (own_eq_Table T rfl rfl rfl rfl rfl) (hr.mono (by omega))) (pv 6) (pv 4) (nomark _)) (pe_cmpR (op_eqD hr.units) (pv 3) (pv 5) (nomark _)) (nomark _))))) (pss_one (ps_ret pe_bl)) pss_nil)
    (pss_cons (ps_if (PW.pt (pw_or (pt_cmpR (op_eqO (own_eq_Table T rfl rfl rfl rfl rfl) (hr.mono (by omega))) (pv 4) (pe_callTy (call_strO (own_str_Table T rfl rfl rfl rfl rfl) (hr.mono (by omega))) (by rfl) (z_str T) boot_str (pa_cons (pv 4) pa_nil)) (nomark _)) (pw_or (pt_cmpR (op_eqO (own_eq_Table T rfl rfl rfl rfl rfl) (hr.mono (by omega))) (pv 4) pe_non (nomark _)) (pw_or (pt_cmpR (op_eqO (own_eq_Table T rfl rfl rfl rfl rfl) (hr.mono (by omega))) (pv 4) (pv 3) (nomark _)) (pw_or1 (pt_not (pt_cmpR (op_neO (own_eq_Table T rfl rfl rfl rfl rfl) (hr.mono (by omega))) (pv 4) (pe_callTy (call_strO (own_str_Table T rfl rfl rfl rfl rfl) (hr.mono (by omega))) (by rfl) (z_str T) boot_str (pa_cons (pv 4) pa_nil)) (nomark _)))))))) (pss_one (ps_ret pe_bl)) pss_nil)
    (pss_cons (ps_set (i := 7) sc_law.nd rfl (Or.inl rfl) (C8.pe_c c_Lsome hr (by first | decide | omega) rfl (pa_cons (pv 1) (pa_cons (pe_ix (ix_listK (K := K) rfl) (pv 3) pe_int (fun _ _ => rfl)) (pa_cons pe_int (pa_cons pe_int pa_nil))))))
    (pss_cons (ps_set (i := 8) sc_law.nd rfl (Or.inl rfl) (C8.pe_c c_Llie hr (by first | decide | omega) rfl (pa_cons (pv 1) (pa_cons (pe_ix (ix_listK (K := K) rfl) (pv 3) pe_int (fun _ _ => rfl)) pa_nil))))
    (pss_cons (ps_if (pt_not (pt_val (Gd.pe_cG cG_Lis un hr (by first | decide | omega) rfl (pa_cons (C8.pe_c c_Lkeyed hr (by first | decide | omega) rfl (pa_cons (pv 4) (pa_cons (pv 7) pa_nil))) (pa_cons (pe_op op_cat (pe_op op_cat (pe_slice sl_list (pv 3) po_none (po_some pe_int)) (pe_lst (pa_cons (pv 7) pa_nil))) (pe_slice sl_list (pv 3) (po_some pe_int) po_none)) pa_nil))))) (pss_one (ps_ret pe_bl)) pss_nil)
    (pss_cons (ps_if (PW.pt (pw_or (pt_not (pt_val (Gd.pe_cG cG_Lis un hr (by first | decide | omega) rfl (pa_cons (C8.pe_mt t_with_lie hr (by first | decide | omega) (pv 4) (pa_cons (pv 8) pa_nil)) (pa_cons (pe_op op_cat (pe_slice sl_list (pv 3) po_none (po_some pe_int)) (pe_lst (pa_cons (pv 8) pa_nil))) pa_nil))))) (pw_or1 (pt_not (pt_val (Gd.pe_cG cG_Lis un hr (by first | decide | omega) rfl (pa_cons (pv 4) (pa_cons (pv 3) pa_nil)))))))) (pss_one (ps_ret pe_bl)) pss_nil)
    (pss_cons (ps_set (i := 9) sc_law.nd rfl (Or.inl rfl) (pe_callTy call_list_of (by rfl) (z_list T) boot_list (pa_cons (pe_ix (ix_listK (K := K) rfl) (pv 3) pe_int (fun _ _ => rfl)) pa_nil)))
    (pss_cons (ps_set (i := 10) sc_law.nd rfl (Or.inl rfl) (pe_callTy call_list_of (by rfl) (z_list T) boot_list (pa_cons (pe_ix (ix_listK (K := K) rfl) (pv 3) pe_int (fun _ _ => rfl)) pa_nil)))
    (pss_cons (ps_set (i := 11) sc_law.nd rfl (Or.inl rfl) (pe_mkp kp_Table_key_lies hr (by first | decide | omega) rfl (pa_cons (pe_ix (ix_listK (K := K) rfl) (pv 3) pe_int (fun _ _ => rfl)) (pa_cons (pv 9) pa_nil)) (pk_cons (pv 10) (pk_cons (pe_ix (ix_listK (K := K) rfl) (pv 3) pe_int (fun _ _ => rfl)) pk_nil))))
    (pss_cons (ps_expr (pe_bm PySem.F.plainAttrs_list PySem.F.slot_list_append PySem.F.type_list_append mt_append (pv 9) (pa_cons pe_str pa_nil)))
    (pss_cons (ps_expr (pe_bm PySem.F.plainAttrs_list PySem.F.slot_list_append PySem.F.type_list_append mt_append (pv 10) (pa_cons pe_str pa_nil)))
    (pss_one (ps_if (PW.pt (pw_or (pt_not (pt_val (Gd.pe_cG cG_Lis un hr (by first | decide | omega) rfl (pa_cons (pv 11) (pa_cons (pv 3) pa_nil))))) (pw_or1 (pt_not (pt_cmpR (op_eqO (own_eq_Table T rfl rfl rfl rfl rfl) (hr.mono (by omega))) (pv 11) (pv 4) (nomark _)))))) (pss_one (ps_ret pe_bl)) pss_nil)))))))))))))))))))
    (pss_one (ps_ret (pe_cmpR op_eq (ClX.pe_cval (pe_g_Table rfl rfl)) pe_int (nomark _)))))), ?_⟩
  have sl : sizeLine = 16777216 := rfl
  have C0 := cls_Table_ T
  have I0 := Hd.insB_ok (ex_0 T)
  obtain ⟨u8, cv⟩ := Hd.clsIntB_ok (ex_12 T)
  refine ⟨_, rfl, a, ns, rfl, hS.sq, fun p G0 H0 k0 P0 => ?_⟩
  refine ⟨6, rfl, by decide, by decide, for_range (lo := 0) (n := 6) (fun i σ H' => ∃ (v2 v3 v4 v5 v6 v7 v8 v9 v10 v11 : Option V) (G' : Hp), σ = [some (.ref a), some (.ref p), v2, v3, v4, v5, v6, v7, v8, v9, v10, v11] ∧ Pq G' H' p (250 * i))
    ⟨_, _, _, _, _, _, _, _, _, _, G0, rfl, P0⟩ ?_ ?_⟩
  · rintro i σ H' hi ⟨v2, v3, v4, v5, v6, v7, v8, v9, v10, v11, G', rfl, ps⟩
    refine ⟨_, rfl, G', p, _, rfl, ps, by omega, fun a1 b1 G1 H1 s1 P1 hb1 ok1 fr1 => ?_⟩
    refine ⟨_, rfl, _, rfl, G1, p, a1, _, b1, rfl, P1, by omega, hb1, ok1, fun x1 G2 H2 s2 P2 tb1 => ?_⟩
    refine ⟨_, rfl, _, rfl, G2, p, a1, _, b1, rfl, P2, by omega, hb1.same s2.gg, ok1, fr1, fun a2 b2 G3 H3 s3 P3 hb2 ok2 => ?_⟩
    refine ⟨_, rfl, _, rfl, G3, p, a2, _, b2, rfl, P3, by omega, hb2, ok2, fun x2 G4 H4 s4 P4 tb2 => ?_⟩
    have hb1 := hb1.same ((s2.gg.trans s3.gg).trans s4.gg)
    have tb1 := tb1.same (s3.gg.trans s4.gg)
    have hb2 := hb2.same s4.gg
    clear s1 s2 s3 s4 P1 P2 P3 ps
    refine ⟨_, rfl, _, rfl, G4, x1, a1, b1, rfl, P4.gh, tb1, hb1, ok1, fun H5 s5 => ⟨_, rfl, iteF ⟨_, rfl, _, rfl, G4, x2, a2, b2, rfl, s5.gh, tb2, hb2, ok2, fun H6 s6 => ⟨_, rfl, iteF ?_⟩⟩⟩⟩
    have P6 := (P4.step s5).step s6
    clear s5 s6 P4
    have gh := P6.gh
    obtain ⟨dx1, c1', k1', l1', e1, _⟩ := tb1.ex
    obtain ⟨dx2, c2', k2', l2', e2, _⟩ := tb2.ex
    obtain ⟨c1, k1, l1, f1, f2⟩ := id hb1.ex
    obtain ⟨c2, k2, l2, g1, g2⟩ := id hb2.ex
    have er : (brD b1).eqv (brD b2) = decide (txtB b1 = txtB b2) := by
      rw [br_eqv, decide_eq_decide]
      exact ⟨fun e => by rw [e], txt_inj ok1 ok2⟩
    have er' : decide (txtB b2 = txtB b1) = decide (txtB b1 = txtB b2) := by rw [decide_eq_decide]; exact ⟨Eq.symm, Eq.symm⟩
    have d1 : Dp K H6 (.ref a1) (brD b1) := BrAt.dp (n := b1.n) (gh _ _ f1) (f2.same gh)
    have d2 : Dp K H6 (.ref a2) (brD b2) := BrAt.dp (n := b2.n) (gh _ _ g1) (g2.same gh)
    have ty1 : TyX K H6 (.ref x1) (.ref (CTb K)) := .base (.ins (gh _ _ e1) C0 I0.ha I0.hn I0.htk I0.hm)
    have ty2 : TyX K H6 (.ref x2) (.ref (CTb K)) := .base (.ins (gh _ _ e2) C0 I0.ha I0.hn I0.htk I0.hm)
    have y1 : spStrTb K (CTb K) x1 (S (txtB b1)) H6 := ⟨G4, b1, gh, tb1, rfl⟩
    refine ⟨_, rfl, _, rfl, x1, dx1, _, .ref (CTb K), _, rfl, gh _ _ e1, ty2, I0.nf, ⟨G4, b1, gh, tb1, .inl ⟨x2, b2, rfl, tb2, rfl⟩⟩, _, rfl, _, rfl, brD b1, brD b2, d1, d2, shp_br ok1, shp_br ok2, rfl, _, rfl, ?_⟩
    refine ite2 (fun z => absurd z (by rw [er]; simp)) (fun _ => ?_)
    refine ⟨_, rfl, _, rfl, x2, dx2, _, .ref (CTb K), _, rfl, gh _ _ e2, ty1, I0.nf, ⟨G4, b2, gh, tb2, .inl ⟨x1, b1, rfl, tb1, rfl⟩⟩, _, rfl, _, rfl, brD b1, brD b2, d1, d2, shp_br ok1, shp_br ok2, rfl, _, rfl, ?_⟩
    refine ite2 (fun z => absurd z (by rw [er, ← er']; simp)) (fun _ => ?_)
    have nfs := fun (t : String) (h : t ∈ ["NoneType", "bool", "int", "str", "list", "tuple", "dict"]) => (Hd.kitsB_ok (ex_1 T) h).2
    have ist : "str" ∈ ["NoneType", "bool", "int", "str", "list", "tuple", "dict"] := by decide
    have inn : "NoneType" ∈ ["NoneType", "bool", "int", "str", "list", "tuple", "dict"] := by decide
    have ili : "list" ∈ ["NoneType", "bool", "int", "str", "list", "tuple", "dict"] := by decide
    refine ⟨_, rfl, _, rfl, x1, dx1, _, _, rfl, gh _ _ e1, y1, x1, dx1, _, .type "str", false, rfl, gh _ _ e1, .base (.str _), nfs _ ist, ⟨G4, b1, gh, tb1, .inr ⟨rfl, "str", ist, .base (.str _)⟩⟩, _, rfl, iteF ?_⟩
    refine ⟨_, rfl, x1, dx1, _, .type "NoneType", false, rfl, gh _ _ e1, .base .non, nfs _ inn, ⟨G4, b1, gh, tb1, .inr ⟨rfl, "NoneType", inn, .base .non⟩⟩, _, rfl, iteF ?_⟩
    refine ⟨_, rfl, _, rfl, x1, dx1, _, .type "list", false, rfl, gh _ _ e1, .base (.lst (gh _ _ f1)), nfs _ ili, ⟨G4, b1, gh, tb1, .inr ⟨rfl, "list", ili, .base (.lst (gh _ _ f1))⟩⟩, _, rfl, iteF ?_⟩
    refine ⟨_, rfl, _, rfl, x1, dx1, _, _, rfl, gh _ _ e1, y1, x1, dx1, _, .type "str", false, rfl, gh _ _ e1, .base (.str _), nfs _ ist, ⟨G4, b1, gh, tb1, .inr ⟨rfl, "str", ist, .base (.str _)⟩⟩, _, rfl, iteF ?_⟩
    clear y1 ty1 ty2 d1 d2 er er' e2 g1 g2
    have nc : c1 ≠ p := fun z => by have e := f2.c; rw [z, P6.out] at e; cases e
    refine ⟨_, rfl, _, rfl, a1, _, 1, _, rfl, rfl, SqL.of (gh _ _ f1), rfl, G4, p, c1, _, b1.cs, 0, 3, rfl, P6, by omega, gh _ _ f2.c, ok1.c.nd, ok1.c.hi, by decide, by decide, by decide, by omega, fun la ks G7 H7 s7 P7 ga sub lo hi => ?_⟩
    refine ⟨_, rfl, _, rfl, a1, _, 1, _, rfl, rfl, SqL.of (P7.gh _ _ (s7.gg _ _ f1)), rfl, G7, p, c1, _, b1.cs, rfl, P7, by omega, P7.gh _ _ (s7.gg _ _ f2.c), nc, ok1.c, fun al li G8 H8 s8 P8 hla okl => ?_⟩
    have k78 := s7.gg.trans s8.gg
    have tb1 := tb1.same k78
    have f1 := k78 _ _ f1
    have f2 := f2.same k78
    have e1 := k78 _ _ e1
    have ga := s8.gg _ _ ga
    clear s7 s8 P6 P7 gh hb1 hb2 tb2
    have hi3 : ks.length ≤ 3 := by omega
    refine ⟨_, rfl, _, rfl, G8, x1, la, b1, ks, rfl, P8.gh, tb1, ok1, ga, sub, hi3, fun G9 H9 x3 s9 tb3 => ?_⟩
    have P9 := P8.step s9
    have tb1 := tb1.same s9.gg
    have f1 := s9.gg _ _ f1
    have f2 := f2.same s9.gg
    have e1 := s9.gg _ _ e1
    have ga := s9.gg _ _ ga
    have hla := hla.same s9.gg
    clear s9 P8
    -- bare[:2] + [asked] + bare[3:]
    refine ⟨_, rfl, _, rfl, a1, _, rfl, SqL.of (P9.gh _ _ f1), fun A hA => ?_⟩
    rw [show cutV [V.str (S b1.n), .ref c1, .ref k1, .ref l1] none (some 2) = [V.str (S b1.n), .ref c1] from rfl]
    obtain ⟨_, PA⟩ := P9.loc (o := .lst [.str (S b1.n), .ref c1]) hA
    have hA1 : upd H9 A (.lst [.str (S b1.n), .ref c1]) A = some (.lst [.str (S b1.n), .ref c1]) := upd_same
    generalize upd H9 A (.lst [.str (S b1.n), .ref c1]) = HA at *
    refine ⟨_, rfl, by show 1 ≤ sizeLine; decide, fun B hB => ?_⟩
    obtain ⟨_, PB⟩ := PA.loc (o := .lst [.ref la]) hB
    have hA2 : upd HA B (.lst [.ref la]) A = some (.lst [.str (S b1.n), .ref c1]) := by rw [upd_ne (ne_of_none hA1 hB)]; exact hA1
    have hB2 : upd HA B (.lst [.ref la]) B = some (.lst [.ref la]) := upd_same
    generalize upd HA B (.lst [.ref la]) = HB at *
    refine ⟨A, B, _, _, rfl, rfl, hA2, hB2, by show 2 + 1 ≤ sizeLine; decide, fun C hC => ?_⟩
    rw [show [V.str (S b1.n), .ref c1] ++ [V.ref la] = [V.str (S b1.n), .ref c1, .ref la] from rfl]
    obtain ⟨_, PC⟩ := PB.loc (o := .lst [.str (S b1.n), .ref c1, .ref la]) hC
    have hC1 : upd HB C (.lst [.str (S b1.n), .ref c1, .ref la]) C = some (.lst [.str (S b1.n), .ref c1, .ref la]) := upd_same
    generalize upd HB C (.lst [.str (S b1.n), .ref c1, .ref la]) = HC at *
    refine ⟨_, rfl, _, rfl, a1, _, rfl, SqL.of (PC.gh _ _ f1), fun D hD => ?_⟩
    rw [show cutV [V.str (S b1.n), .ref c1, .ref k1, .ref l1] (some 3) none = [V.ref l1] from rfl]
    obtain ⟨_, PD⟩ := PC.loc (o := .lst [.ref l1]) hD
    have hC2 : upd HC D (.lst [.ref l1]) C = some (.lst [.str (S b1.n), .ref c1, .ref la]) := by rw [upd_ne (ne_of_none hC1 hD)]; exact hC1
    have hD2 : upd HC D (.lst [.ref l1]) D = some (.lst [.ref l1]) := upd_same
    generalize upd HC D (.lst [.ref l1]) = HD at *
    refine ⟨C, D, _, _, rfl, rfl, hC2, hD2, by show 3 + 1 ≤ sizeLine; decide, fun E' hE => ?_⟩
    rw [show [V.str (S b1.n), .ref c1, .ref la] ++ [V.ref l1] = [V.str (S b1.n), .ref c1, .ref la, .ref l1] from rfl]
    obtain ⟨sE, PE'⟩ := PD.new_ (o := .lst [.str (S b1.n), .ref c1, .ref la, .ref l1]) hE
    have gE : upd G9 E' (.lst [.str (S b1.n), .ref c1, .ref la, .ref l1]) E' = some (.lst [.str (S b1.n), .ref c1, .ref la, .ref l1]) := upd_same
    have kE := sE.gg
    generalize upd G9 E' (.lst [.str (S b1.n), .ref c1, .ref la, .ref l1]) = GE at *
    generalize upd HD E' (.lst [.str (S b1.n), .ref c1, .ref la, .ref l1]) = HE at *
    clear sE hA1 hA2 hB2 hC1 hC2 hD2 PA PB PC PD P9
    have tb1 := tb1.same kE
    have f1 := kE _ _ f1
    have f2 := f2.same kE
    have e1 := kE _ _ e1
    have hla := hla.same kE
    refine ⟨GE, x3, E', { b1 with ky := ks }, rfl, PE'.gh, tb3.same kE, ⟨c1, la, l1, gE, ⟨f2.c, kE _ _ ga, f2.l⟩⟩, ⟨ok1.n, ok1.c, sub, ok1.l⟩, fun H10 s10 => ⟨_, rfl, iteF ?_⟩⟩
    have P10 := PE'.step s10
    clear s10 PE' tb3 gE kE ga
    -- with another lie
    refine ⟨_, rfl, x1, dx1, _, rfl, P10.gh _ _ e1, tbf_wl.1, _, rfl, GE, x1, al, b1, li, rfl, P10.gh, tb1, ok1, hla, okl, fun G11 H11 x4 s11 tb4 => ?_⟩
    have P11 := P10.step s11
    have tb1 := tb1.same s11.gg
    have f1 := s11.gg _ _ f1
    have f2 := f2.same s11.gg
    have e1 := s11.gg _ _ e1
    have hla := hla.same s11.gg
    clear s11 P10
    refine ⟨_, rfl, _, rfl, a1, _, rfl, SqL.of (P11.gh _ _ f1), fun A hA => ?_⟩
    rw [show cutV [V.str (S b1.n), .ref c1, .ref k1, .ref l1] none (some 3) = [V.str (S b1.n), .ref c1, .ref k1] from rfl]
    obtain ⟨_, PA⟩ := P11.loc (o := .lst [.str (S b1.n), .ref c1, .ref k1]) hA
    have hA1 : upd H11 A (.lst [.str (S b1.n), .ref c1, .ref k1]) A = some (.lst [.str (S b1.n), .ref c1, .ref k1]) := upd_same
    generalize upd H11 A (.lst [.str (S b1.n), .ref c1, .ref k1]) = HA at *
    refine ⟨_, rfl, by show 1 ≤ sizeLine; decide, fun B hB => ?_⟩
    obtain ⟨_, PB⟩ := PA.loc (o := .lst [.ref al]) hB
    have hA2 : upd HA B (.lst [.ref al]) A = some (.lst [.str (S b1.n), .ref c1, .ref k1]) := by rw [upd_ne (ne_of_none hA1 hB)]; exact hA1
    have hB2 : upd HA B (.lst [.ref al]) B = some (.lst [.ref al]) := upd_same
    generalize upd HA B (.lst [.ref al]) = HB at *
    refine ⟨A, B, _, _, rfl, rfl, hA2, hB2, by show 3 + 1 ≤ sizeLine; decide, fun C hC => ?_⟩
    rw [show [V.str (S b1.n), .ref c1, .ref k1] ++ [V.ref al] = [V.str (S b1.n), .ref c1, .ref k1, .ref al] from rfl]
    obtain ⟨sC, PC⟩ := PB.new_ (o := .lst [.str (S b1.n), .ref c1, .ref k1, .ref al]) hC
    have gC : upd G11 C (.lst [.str (S b1.n), .ref c1, .ref k1, .ref al]) C = some (.lst [.str (S b1.n), .ref c1, .ref k1, .ref al]) := upd_same
    have kC := sC.gg
    generalize upd G11 C (.lst [.str (S b1.n), .ref c1, .ref k1, .ref al]) = GC at *
    generalize upd HB C (.lst [.str (S b1.n), .ref c1, .ref k1, .ref al]) = HC at *
    clear sC hA1 hA2 hB2 PA PB P11
    have tb1 := tb1.same kC
    have f1 := kC _ _ f1
    have f2 := f2.same kC
    have e1 := kC _ _ e1
    refine ⟨GC, x4, C, { b1 with li := li }, rfl, PC.gh, tb4.same kC, ⟨c1, k1, al, gC, ⟨f2.c, f2.k, hla.same kC⟩⟩, ⟨ok1.n, ok1.c, ok1.k, okl⟩, fun H12 s12 => ⟨_, rfl, iteF ?_⟩⟩
    have hb1 : Bare K GC a1 b1 := ⟨c1, k1, l1, f1, f2⟩
    refine ⟨_, rfl, _, rfl, GC, x1, a1, b1, rfl, s12.gh, tb1, hb1, ok1, fun H13 s13 => ⟨_, rfl, iteF ?_⟩⟩
    have P13 := (PC.step s12).step s13
    clear s12 s13 PC tb4 gC kC hla
    -- what was passed is copied
    refine ⟨_, rfl, a1, _, 1, _, rfl, rfl, SqL.of (P13.gh _ _ f1), rfl, c1, _, rfl, .inl (SqL.of (P13.gh _ _ f2.c)), fun LC hLC => ?_⟩
    have nCp : LC ≠ p := fun z => P13.there (by rw [← z]; exact hLC)
    have gLC := P13.gh.free hLC
    obtain ⟨sLC, P14⟩ := P13.loc (o := .lst (sV b1.cs)) hLC
    have hC4 : upd H13 LC (.lst (sV b1.cs)) LC = some (.lst (sV b1.cs)) := upd_same
    generalize upd H13 LC (.lst (sV b1.cs)) = H14 at *
    refine ⟨_, rfl, a1, _, 2, _, rfl, rfl, SqL.of (P14.gh _ _ f1), rfl, k1, _, rfl, .inl (SqL.of (P14.gh _ _ f2.k)), fun LK hLK => ?_⟩
    have nKp : LK ≠ p := fun z => P14.there (by rw [← z]; exact hLK)
    have nCK : LC ≠ LK := ne_of_none hC4 hLK
    have gLK := P14.gh.free hLK
    obtain ⟨sLK, P15⟩ := P14.loc (o := .lst (sV b1.ky)) hLK
    have hK5 : upd H14 LK (.lst (sV b1.ky)) LK = some (.lst (sV b1.ky)) := upd_same
    have hC5 : upd H14 LK (.lst (sV b1.ky)) LC = some (.lst (sV b1.cs)) := by rw [upd_ne nCK]; exact hC4
    generalize upd H14 LK (.lst (sV b1.ky)) = H15 at *
    clear sLC sLK P13 P14 hC4
    refine ⟨_, rfl, a1, _, 0, _, rfl, rfl, SqL.of (P15.gh _ _ f1), rfl, _, rfl, _, rfl, _, rfl, a1, _, 3, _, rfl, rfl, SqL.of (P15.gh _ _ f1), rfl, rfl, rfl, fun x5 dx5 hx hdx ne => ?_⟩
    obtain ⟨m1, m2, m3, m4⟩ := mkPre (C := CTb K) P15.gh (SqL.of hC5) (.inl (SqL.of hK5)) hx hdx ne
    refine ⟨GC, x5, dx5, LC, LK, l1, b1, rfl, m1, m2, upd_same, m3, m4, f2.l, ok1, fun Gx H16 cx kx stx gpx hpx batx => ⟨rfl, ?_⟩⟩
    obtain ⟨G16, s16, tb5⟩ := mkPost P15.gh hx hdx ne stx gpx hpx batx
    clear stx gpx hpx batx m1 m2 m3 m4
    have P16 := P15.step s16
    have hC6 := s16.same _ _ hC5
    have hK6 := s16.same _ _ hK5
    have gC6 := s16.out gLC (by rw [hC5]; exact fun z => by cases z)
    have gK6 := s16.out gLK (by rw [hK5]; exact fun z => by cases z)
    have tb1 := tb1.same s16.gg
    have hb1 := hb1.same s16.gg
    have c8 := ok1.c.hi
    have k8 := ok1.ky8
    clear s16 P15 hC5 hK5
    refine ⟨_, rfl, .inl ⟨rfl, _, SqL.of hC6⟩, LC, _, _, rfl, rfl, hC6, by rw [sV_len]; omega, ?_⟩
    have P17 := P16.local_ (o := .lst (sV b1.cs ++ [.str "fresh"])) gC6 nCp
    have hK7 : upd H16 LC (.lst (sV b1.cs ++ [.str "fresh"])) LK = some (.lst (sV b1.ky)) := by rw [upd_ne nCK.symm]; exact hK6
    generalize upd H16 LC (.lst (sV b1.cs ++ [.str "fresh"])) = H17 at *
    refine ⟨_, rfl, .inl ⟨rfl, _, SqL.of hK7⟩, LK, _, _, rfl, rfl, hK7, by rw [sV_len]; omega, ?_⟩
    have P18 := P17.local_ (o := .lst (sV b1.ky ++ [.str "fresh"])) gK6 nKp
    generalize upd H17 LK (.lst (sV b1.ky ++ [.str "fresh"])) = H18 at *
    refine ⟨_, rfl, _, rfl, G16, x5, a1, b1, rfl, P18.gh, tb5, hb1, ok1, fun H19 s19 => ⟨_, rfl, iteF ?_⟩⟩
    have P19 := P18.step s19
    obtain ⟨dx6, c6, k6, l6, e6, _⟩ := tb5.ex
    obtain ⟨dx7, c7, k7, l7, e7, _⟩ := tb1.ex
    refine ⟨_, rfl, _, rfl, x5, dx6, _, .ref (CTb K), _, rfl, P19.gh _ _ e6, .base (.ins (P19.gh _ _ e7) C0 I0.ha I0.hn I0.htk I0.hm), I0.nf, ⟨G16, b1, P19.gh, tb5, .inl ⟨x1, b1, rfl, tb1, rfl⟩⟩, _, rfl, ?_⟩
    rw [decide_eq_true (Eq.refl (txtB b1))]
    exact iteF ⟨_, _, _, _, _, _, _, _, _, _, G16, rfl, P19.mono (by omega)⟩
  · rintro σ H' ⟨v2, v3, v4, v5, v6, v7, v8, v9, v10, v11, G', rfl, ps⟩
    refine ⟨_, _, _, _, rfl, ⟨ex_10 T, He.eqO_ok (ex_11 T)⟩, cv, rfl, ?_⟩
    exact q _
end Pf
namespace Pf
open PySem PySem.Spec PyProof.Rows L2
abbrev R : PySem.W.OpenRow := PySem.W.OpenLaw.row PySem.Challenge.rw_splitplans_k14_tables_told
abbrev hk : PySem.W.Hook := Hd.hook 5 fa ex defs
def ob (s : PySem.W.SharedT) : Hd.Al := Hd.atHeap 5 fa ex defs (HandSHeadRun.getT s)
theorem ob_eq (s : PySem.W.SharedT) : ob s = hk.obs s.abs := Hd.at_eq (HandSHeadRun.getT_eq s)
theorem run (w : World) : HandSHeadRun.RunEq R (PySem.W.view R.prog [33]) hk ob 6000 looseN w := by
  intro os
  kernel_rfl
end Pf
open PySem PySem.W PySem.Calls PyProof.Rows
theorem PySem.Challenge.cw_splitplans_k14_tables_told_holds : PySem.Challenge.rw_splitplans_k14_tables_told.Holds := by
  w_on; o_law
  refine HandSHeadRun.head_any (r := OpenLaw.row PySem.Challenge.rw_splitplans_k14_tables_told) (q := view (OpenLaw.row PySem.Challenge.rw_splitplans_k14_tables_told).prog [33]) (H := Pf.hk) (ob := Pf.ob) (M := 6000) (loose := Pf.looseN) (d := HandSHeadRun.topDef (OpenLaw.row PySem.Challenge.rw_splitplans_k14_tables_told).prog 33) (kwd := []) Pf.ob_eq
    (by kernel_rfl) (fun s => by kernel_rfl) Pf.run (by kernel_rfl) (by kernel_rfl) (by kernel_rfl) (by rfl) (by first | assumption | decide +kernel) (by decide +kernel) ⟨rfl, rfl, rfl, rfl, rfl, by decide +kernel⟩ ?hw ?hc
  case hw => w_witness2
  case hc =>
    refine Gd.lawG (l := PySem.Challenge.rw_splitplans_k14_tables_told) (n := 63) (k := 12) (x := "_law_script") rfl (by decide) (by kernel_rfl) ⟨rfl, by decide, by decide⟩ ?_
    intro w mg fa h Y G hmg0
    obtain ⟨K, KX, c⟩ := Y
    have hmg : mg ("law" : PySem.Str) = some (.ref fa) := by
      have e : (HandSHeadRun.topDef (OpenLaw.row PySem.Challenge.rw_splitplans_k14_tables_told).prog 33).name = ("law" : PySem.Str) := by kernel_rfl
      rw [← e]
      exact hmg0
    have T : Pf.Tx K mg := ⟨c, fun x hx => He.glo_ok KX G (c.fact hx), fun x hx => He.free_ok KX G (c.fact hx), fun x i hx => He.int_ok KX G (c.fact hx), fun x z hx => He.str_ok KX G (c.fact hx)⟩
    have e := hmg.symm.trans (Pf.g_law T)
    cases e
    obtain ⟨fd, F⟩ := Pf.f_law T
    have b := L2.FunD.bindsA (ps := ["_law_script"]) F fun _ _ _ _ _ _ us hl => match us, hl with | [_], _ => rfl
    exact ⟨K, fd, Bs.spLaw K, KX, fun s v => b s [v] rfl, fun H a ns hl hO hS => ⟨a, ns, rfl, Bs.Fz.only hO hS, hl, fun _ => rfl⟩, fun base _ _ => Pf.o_law T F⟩
